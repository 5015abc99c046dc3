/- simulcastlaw19.plan; the reference's Place and May. -/
import Derived.Test.YtfegeahieajmkaaDoorDsReg
import Derived.Test.YtfegeahieajmkaaDoorDsRead
import Derived.Deep.DeepCutAuto
namespace Go.Proofs.YtfegeahieajmkaaDoor
open Go.ChangeShapes Go.WideShapes Go.ChangeAt Go.RowKit Go.Maps
open Lay (startL checkI placeI mayI sizeI Ok starts checkI_ok)
def blE : Enc Bool where
  k := 1
  enc b := [.bool b]
  len _ := rfl
  one x u hu := by
    simp only [List.mem_cons, List.not_mem_nil, or_false] at hu
    subst hu; rfl
  pos := by decide
def mayBs (T C B n : Nat) : List Bool := (List.range n).map fun (i : Nat) => mayI T C B i
theorem mayBs_len (T C B n : Nat) : (mayBs T C B n).length = n := by simp [mayBs]
theorem mayBs_succ (T C B n : Nat) : mayBs T C B (n + 1) = mayBs T C B n ++ [mayI T C B n] := by simp [mayBs, List.range_succ]
theorem mayBs_at (T C B : Nat) {n i : Nat} (h : i < n) : (mayBs T C B n)[i]! = mayI T C B i := by
  rw [getElem!_pos _ i (by rw [mayBs_len]; exact h)]; simp [mayBs]
/-- Where the blocks begin, as a plan says it. -/
def roomsI (T C B : Nat) : Nat := if 0 < B then startL T C B 6 else 0
/-- A plan as a value. -/
def PlV (T C B : Nat) (u : Value) : Value := .agg #[.int .i64 T, .int .i64 B, .int .i64 (startL T C B 4), .int .i64 (roomsI T C B), .int .i64 104, .int .i64 32, u, .int .i64 (startL T C B 7)]
theorem infoBl : (Tryd.prog.info? 4).map (fun i => (i.zero, i.size, i.bytes)) = some (some (.bool false), 1, 1) := by kernel_rfl
theorem cell_other {w : World} {b b' j j' : Nat} {u v : Value} (h : w.cell? ⟨b, j, none⟩ = some v) (hne : b ≠ b') : (w.setCell ⟨b', j', none⟩ u).cell? ⟨b, j, none⟩ = some v := by
  unfold World.cell? at *
  rw [Below.heap_setCell _ _ _ _ (by simpa using hne)]
  exact h
theorem plan_ok {a b c : Nat} : Ok (1 + a % 4) (8 + b % 40) (c % 12) := by
  have h : Lay.In (1 + a % 4) (8 + b % 40) (c % 12) := ⟨by omega, by omega, by omega, by omega, by omega⟩
  have hs := starts (1 + a % 4) (8 + b % 40) (c % 12)
  exact ⟨h, by omega⟩
/-- What plan answers: the layout, the plan and true. -/
def PlanOut (T C B : Nat) (w : World) (e : Ending) (w' : World) : Prop :=
  (∃ u, e = .returned (.tuple #[.agg #[.int .i64 T, .int .i64 C, .int .i64 B], PlV T C B u, .bool true]) ∧ SK blE w' u (mayBs T C B (startL T C B 7))) ∧ Below w.heap.size w w'
set_option maxRecDepth 100000 in
set_option maxHeartbeats 6400000 in
theorem plan_any (a b c : Nat) (w : World) (hg : Lay.Gl w) (ha : a < 256) (hb : b < 256) (hc : c < 256) : Calls Tryd.prog 12 #[.agg #[.int .u8 a, .int .u8 b, .int .u8 c]] w (PlanOut (1 + a % 4) (8 + b % 40) (c % 12) w) := by
  have HG := Lib.hid hg
  have HG0 := HG
  have OK := Lib.hid (plan_ok (a := a) (b := b) (c := c))
  have m1 : (a : Int).tmod 4 = ((a % 4 : Nat) : Int) := by rw [Int.tmod_eq_emod_of_nonneg (by omega)]; simp
  have m2 : (b : Int).tmod 40 = ((b % 40 : Nat) : Int) := by rw [Int.tmod_eq_emod_of_nonneg (by omega)]; simp
  have m3 : (c : Int).tmod 12 = ((c % 12 : Nat) : Int) := by rw [Int.tmod_eq_emod_of_nonneg (by omega)]; simp
  have r1 : a % 4 < 4 := Nat.mod_lt _ (by omega)
  have r2 : b % 40 < 40 := Nat.mod_lt _ (by omega)
  have r3 : c % 12 < 12 := Nat.mod_lt _ (by omega)
  obtain ⟨a', ha'⟩ : ∃ x, a % 4 = x := ⟨_, rfl⟩
  obtain ⟨b', hb'⟩ : ∃ x, b % 40 = x := ⟨_, rfl⟩
  obtain ⟨B, hB⟩ : ∃ x, c % 12 = x := ⟨_, rfl⟩
  rw [ha'] at m1 r1 OK ⊢
  rw [hb'] at m2 r2 OK ⊢
  rw [hB] at m3 r3 OK ⊢
  have HT : Hid (1 + (a' : Int) = ((1 + a' : Nat) : Int)) := Lib.hid (by omega)
  have HC : Hid (8 + (b' : Int) = ((8 + b' : Nat) : Int)) := Lib.hid (by omega)
  obtain ⟨T, hT⟩ : ∃ x, 1 + a' = x := ⟨_, rfl⟩
  obtain ⟨C, hC⟩ : ∃ x, 8 + b' = x := ⟨_, rfl⟩
  rw [hT] at OK HT ⊢
  rw [hC] at OK HC ⊢
  clear ha' hb' hB hT hC hg
  go_enter Tryd.func12, Tryd.ntmps12
  go_upto_region 2 with fail
  rw [HT.out, HC.out]
  have A1 := Lib.hid (below1 w (.cells #[.int .u8 a, .int .u8 b, .int .u8 c] 22))
  have A2 := Lib.hid (below1 (w.alloc (.cells #[.int .u8 a, .int .u8 b, .int .u8 c] 22)) (.cells #[.int .i64 0, .int .i64 0, .int .i64 0] 29))
  have A3 := Lib.hid (below1 ((w.alloc (.cells #[.int .u8 a, .int .u8 b, .int .u8 c] 22)).alloc (.cells #[.int .i64 0, .int .i64 0, .int .i64 0] 29)) (.cells #[.int .i64 0, .int .i64 0, .int .i64 0, .int .i64 0, .int .i64 0, .int .i64 0, .slice none 0 0, .int .i64 0] 32))
  have A4 := Lib.hid (below1 (((w.alloc (.cells #[.int .u8 a, .int .u8 b, .int .u8 c] 22)).alloc (.cells #[.int .i64 0, .int .i64 0, .int .i64 0] 29)).alloc (.cells #[.int .i64 0, .int .i64 0, .int .i64 0, .int .i64 0, .int .i64 0, .int .i64 0, .slice none 0 0, .int .i64 0] 32)) (.cells #[.int .i64 T, .int .i64 C, .int .i64 B] 29))
  have BB := Lib.hid (((A1.out.trans (A2.out.mono A1.out.size)).trans (A3.out.mono (Nat.le_trans A1.out.size A2.out.size))).trans (A4.out.mono (Nat.le_trans A1.out.size (Nat.le_trans A2.out.size A3.out.size))))
  have R2 := Lib.hid (((Box.new (w.alloc (.cells #[.int .u8 a, .int .u8 b, .int .u8 c] 22)) #[.int .i64 0, .int .i64 0, .int .i64 0] 29 (n := w.heap.size + 1) (by simp)).below A3.out).below A4.out)
  have R3 := Lib.hid ((Box.new ((w.alloc (.cells #[.int .u8 a, .int .u8 b, .int .u8 c] 22)).alloc (.cells #[.int .i64 0, .int .i64 0, .int .i64 0] 29)) #[.int .i64 0, .int .i64 0, .int .i64 0, .int .i64 0, .int .i64 0, .int .i64 0, .slice none 0 0, .int .i64 0] 32 (n := w.heap.size + 1 + 1) (by simp)).below A4.out)
  have L5 := Lib.hid (Box.new (((w.alloc (.cells #[.int .u8 a, .int .u8 b, .int .u8 c] 22)).alloc (.cells #[.int .i64 0, .int .i64 0, .int .i64 0] 29)).alloc (.cells #[.int .i64 0, .int .i64 0, .int .i64 0, .int .i64 0, .int .i64 0, .int .i64 0, .slice none 0 0, .int .i64 0] 32)) #[.int .i64 T, .int .i64 C, .int .i64 B] 29 (n := w.heap.size + 1 + 1 + 1) (by simp))
  replace HG := Lib.hid (HG.out.below BB.out)
  obtain ⟨W, hW⟩ : ∃ W, ((((w.alloc (.cells #[.int .u8 a, .int .u8 b, .int .u8 c] 22)).alloc (.cells #[.int .i64 0, .int .i64 0, .int .i64 0] 29)).alloc (.cells #[.int .i64 0, .int .i64 0, .int .i64 0, .int .i64 0, .int .i64 0, .int .i64 0, .slice none 0 0, .int .i64 0] 32)).alloc (.cells #[.int .i64 T, .int .i64 C, .int .i64 B] 29)) = W := ⟨_, rfl⟩
  obtain ⟨q, hq⟩ : ∃ q, w.heap.size = q := ⟨_, rfl⟩
  have HQ := Lib.hid hq
  rw [hW] at BB R2 R3 L5 HG
  rw [hq] at R2 R3 L5
  rw [hW, hq]
  clear hW hq A1 A2 A3 A4
  have CK := Lib.hid (fun W h => Lay.check_any T C B W h)
  rw [checkI_ok OK.out] at CK
  have SL := Lib.hid (fun W h => Lay.slot_any T C B 1 W h (by omega))
  have SZ := Lib.hid (fun W h => Lay.size_any T C B W h)
  have BK := Lib.hid (fun W h => Lay.block_any T C B 0 W h)
  have FI := Lib.hid (fun W h => Lay.first_ok T C B W h OK.out)
  have MY := Lib.hid (fun x W h => Lay.may_any T C B x W h)
  have HS := Lib.hid (starts T C B)
  have H4 := Lib.hid (show (startL T C B 4 : Int) = startL T C B 4 from rfl)
  rw [show sizeI T C B = (startL T C B 7 : Int) by unfold sizeI; rw [checkI_ok OK.out, if_pos rfl]; simp] at SZ
  rw [show Lay.threadI T C B 4 1 = (startL T C B 4 : Int) by
    unfold Lay.threadI
    rw [if_neg (by omega), Lay.unitI_ok OK.out, if_pos (by have := OK.out.1.1; simp only [Lay.unitsL]; simp; omega)]
    simp] at SL
  have RM := Lib.hid (show roomsI T C B = if 0 < B then startL T C B 6 else 0 from rfl)
  have UB := Lib.hid (fun (h : 0 < B) => show Lay.unitI T C B 6 0 = (startL T C B 6 : Int) by
    rw [Lay.unitI_ok OK.out, if_pos (by simp only [Lay.unitsL]; simp; omega)]
    simp)
  have PO : Hid (∀ u w', SK blE w' u (mayBs T C B (startL T C B 7)) → Below w.heap.size w w' → PlanOut T C B w (.returned (.tuple #[.agg #[.int .i64 T, .int .i64 C, .int .i64 B], PlV T C B u, .bool true])) w') := Lib.hid (fun u w' h1 h2 => ⟨⟨u, rfl, h1⟩, h2⟩)
  unfold PlV at PO
  have N7 : startL T C B 7 ≤ 5200 := Lay.startL_le T C B OK.out.1 7 (by omega)
  unfold Lay.LV at CK SL SZ BK FI MY
  obtain ⟨n, hn⟩ : ∃ n, startL T C B 7 = n := ⟨_, rfl⟩
  obtain ⟨s4, hs4⟩ : ∃ n, startL T C B 4 = n := ⟨_, rfl⟩
  obtain ⟨rm, hrm⟩ : ∃ n, roomsI T C B = n := ⟨_, rfl⟩
  rw [hn] at SZ FI PO N7
  rw [hs4] at SL PO
  rw [hrm] at RM PO
  clear hn hs4 hrm H4 HS
  have x0 := L5.out.cell 0
  have x1 := L5.out.cell 1
  have x2 := L5.out.cell 2
  simp at x0 x1 x2
  go_wp2_with fail
  refine (CK.out _ HG.out).mono ?_
  rintro e w1 ⟨rfl, hb⟩
  replace R2 := Lib.hid (R2.out.below hb)
  replace R3 := Lib.hid (R3.out.below hb)
  replace L5 := Lib.hid (L5.out.below hb)
  replace HG := Lib.hid (HG.out.below hb)
  replace BB := Lib.hid (BB.out.trans (hb.mono BB.out.size))
  clear hb x0 x1 x2 CK
  go_upto_region 4 with fail
  go_cut [6] (fun s6 wx => ∃ p6, s6 = .pointer (some ⟨p6, 0, none⟩) ∧ q + 1 + 1 + 1 < p6 ∧ Box wx p6 #[.int .i64 T, .int .i64 B, .int .i64 s4, .int .i64 0, .int .i64 104, .int .i64 32, .slice none 0 0, .int .i64 n] 32 ∧ Box wx (q + 1 + 1 + 1) #[.int .i64 T, .int .i64 C, .int .i64 B] 29 ∧ Box wx (q + 1) #[.int .i64 0, .int .i64 0, .int .i64 0] 29 ∧ Box wx (q + 1 + 1) #[.int .i64 0, .int .i64 0, .int .i64 0, .int .i64 0, .int .i64 0, .int .i64 0, .slice none 0 0, .int .i64 0] 32 ∧ Lay.Gl wx ∧ Below w.heap.size w wx)
  case first =>
    replace R2 := Lib.hid (R2.out.below ((Below.refl _ _).drew))
    replace R3 := Lib.hid (R3.out.below ((Below.refl _ _).drew))
    replace L5 := Lib.hid (L5.out.below ((Below.refl _ _).drew))
    replace HG := Lib.hid (HG.out.below ((Below.refl _ _).drew))
    replace BB := Lib.hid (BB.out.trans (((Below.refl _ _).drew).mono BB.out.size))
    refine wp_region_held_drew (S := fun w' => w'.cell? ⟨q + 1 + 1 + 1, 0, none⟩ = some (.int .i64 T) ∧ w'.cell? ⟨q + 1 + 1 + 1, 1, none⟩ = some (.int .i64 C) ∧ w'.cell? ⟨q + 1 + 1 + 1, 2, none⟩ = some (.int .i64 B)) (by kernel_rfl) ⟨(L5.out.cell 0), (L5.out.cell 1), (L5.out.cell 2)⟩ (fun hHeld => ?_)
    generalize World.drew w1 = V30 at *
    refine wpAnyH_take (i := 0) (oi := { dst := some 28, op := Op.fieldAddr 29 (Operand.tmp 5) 0, type := 0, pos := "law.go:19", after := #[], guard := none }) (v := ?d31_1xv0) rfl (by kernel_rfl) (by kernel_rfl) (by kernel_rfl) (fun _ _ _ h => h) (Or.inl ⟨by rfl, ?d31_1xy0⟩) (by assumption) ?d31_1xr0
    case d31_1xy0 => (intro w hSw; (try dsimp only at hSw); go_simp; try with_reducible rfl)
    (try simp only [Act.put])
    (try simp only [List.setIfInBounds_toArray])
    (try simp only [List.set_cons_succ])
    (try simp only [List.set_cons_zero])
    refine wpAnyH_take (i := 1) (oi := { dst := some 29, op := Op.load 3 (Operand.tmp 28), type := 3, pos := "law.go:19", after := #[{ on := 0, ground := Ground.data }], guard := none }) (v := ?d31_2xv1) rfl (by kernel_rfl) (by kernel_rfl) (by kernel_rfl) (fun _ _ _ h => h) (Or.inl ⟨by rfl, ?d31_2xy1⟩) (by assumption) ?d31_2xr1
    case d31_2xy1 => (intro w hSw; (try dsimp only at hSw); go_simp; try with_reducible rfl)
    (try simp only [Act.put])
    (try simp only [List.setIfInBounds_toArray])
    (try simp only [List.set_cons_succ])
    (try simp only [List.set_cons_zero])
    refine wpAnyH_take (i := 2) (oi := { dst := some 30, op := Op.fieldAddr 29 (Operand.tmp 5) 2, type := 0, pos := "law.go:19", after := #[], guard := none }) (v := ?d31_3xv2) rfl (by kernel_rfl) (by kernel_rfl) (by kernel_rfl) (fun _ _ _ h => h) (Or.inl ⟨by rfl, ?d31_3xy2⟩) (by assumption) ?d31_3xr2
    case d31_3xy2 => (intro w hSw; (try dsimp only at hSw); go_simp; try with_reducible rfl)
    (try simp only [Act.put])
    (try simp only [List.setIfInBounds_toArray])
    (try simp only [List.set_cons_succ])
    (try simp only [List.set_cons_zero])
    refine wpAnyH_take (i := 3) (oi := { dst := some 31, op := Op.load 3 (Operand.tmp 30), type := 3, pos := "law.go:19", after := #[{ on := 2, ground := Ground.data }], guard := none }) (v := ?d31_4xv3) rfl (by kernel_rfl) (by kernel_rfl) (by kernel_rfl) (fun _ _ _ h => h) (Or.inl ⟨by rfl, ?d31_4xy3⟩) (by assumption) ?d31_4xr3
    case d31_4xy3 => (intro w hSw; (try dsimp only at hSw); go_simp; try with_reducible rfl)
    (try simp only [Act.put])
    (try simp only [List.setIfInBounds_toArray])
    (try simp only [List.set_cons_succ])
    (try simp only [List.set_cons_zero])
    refine wpAnyH_take (i := 4) (oi := { dst := some 32, op := Op.load 29 (Operand.tmp 5), type := 29, pos := "law.go:19", after := #[], guard := none }) (v := ?d31_5xv4) rfl (by kernel_rfl) (by kernel_rfl) (by kernel_rfl) (fun _ _ _ h => h) (Or.inl ⟨by rfl, ?d31_5xy4⟩) (by assumption) ?d31_5xr4
    case d31_5xy4 => (intro w hSw; (try dsimp only at hSw); go_simp; try with_reducible rfl)
    (try simp only [Act.put])
    (try simp only [List.setIfInBounds_toArray])
    (try simp only [List.set_cons_succ])
    (try simp only [List.set_cons_zero])
    refine wpAnyH_take (i := 6) (oi := { dst := some 34, op := Op.load 29 (Operand.tmp 5), type := 29, pos := "law.go:19", after := #[], guard := none }) (v := ?d31_6xv6) rfl (by kernel_rfl) (by kernel_rfl) (by kernel_rfl) (fun _ _ _ h => h) (Or.inl ⟨by rfl, ?d31_6xy6⟩) (by assumption) ?d31_6xr6
    case d31_6xy6 => (intro w hSw; (try dsimp only at hSw); go_simp; try with_reducible rfl)
    (try simp only [Act.put])
    (try simp only [List.setIfInBounds_toArray])
    (try simp only [List.set_cons_succ])
    (try simp only [List.set_cons_zero])
    refine wpAnyH_ready (rs := [5, 9]) (by kernel_rfl) (by simp) ?_
    refine AllReadyH.cons (o := { dst := some 33, op := Op.call { callee := Callee.value (Operand.func 37), args := #[Operand.tmp 32, Operand.const (Value.int IntKind.i64 1)], argTypes := #[29, 3] }, type := 44, pos := "law.go:19", after := #[{ on := 4, ground := Ground.data }], guard := none }) rfl (fun K hK => ?_) ?_
    · skip
      go_simp
      go_at_call 37
      refine (SL.out _ HG.out).mono ?_
      rintro e v31 ⟨rfl, hb⟩
      replace R2 := Lib.hid (R2.out.below (hb))
      replace R3 := Lib.hid (R3.out.below (hb))
      replace L5 := Lib.hid (L5.out.below (hb))
      replace HG := Lib.hid (HG.out.below (hb))
      replace BB := Lib.hid (BB.out.trans ((hb).mono BB.out.size))
      clear hb
      go_simp
      refine hK.out _ _ ?_ (fun hHeld => ?_)
      · exact ⟨(L5.out.cell 0), (L5.out.cell 1), (L5.out.cell 2)⟩
      clear hK K
      (try simp only [Act.put])
      (try simp only [List.setIfInBounds_toArray])
      (try simp only [List.set_cons_succ])
      (try simp only [List.set_cons_zero])
      refine wpAnyH_ready (rs := [7, 9]) (by kernel_rfl) (by simp) ?_
      refine AllReadyH.cons (o := { dst := some 35, op := Op.call { callee := Callee.value (Operand.func 38), args := #[Operand.tmp 34], argTypes := #[29] }, type := 3, pos := "law.go:19", after := #[{ on := 6, ground := Ground.data }, { on := 5, ground := Ground.chain }], guard := none }) rfl (fun K hK => ?_) ?_
      · skip
        go_simp
        go_at_call 38
        refine (SZ.out _ HG.out).mono ?_
        rintro e v32 ⟨rfl, hb⟩
        replace R2 := Lib.hid (R2.out.below (hb))
        replace R3 := Lib.hid (R3.out.below (hb))
        replace L5 := Lib.hid (L5.out.below (hb))
        replace HG := Lib.hid (HG.out.below (hb))
        replace BB := Lib.hid (BB.out.trans ((hb).mono BB.out.size))
        clear hb
        go_simp
        refine hK.out _ _ ?_ (fun hHeld => ?_)
        · exact ⟨(L5.out.cell 0), (L5.out.cell 1), (L5.out.cell 2)⟩
        clear hK K
        (try simp only [Act.put])
        (try simp only [List.setIfInBounds_toArray])
        (try simp only [List.set_cons_succ])
        (try simp only [List.set_cons_zero])
        refine wpAnyH_take (i := 8) (oi := { dst := some 36, op := Op.build 32 #[(0, Operand.tmp 29), (1, Operand.tmp 31), (2, Operand.tmp 33), (4, Operand.const (Value.int IntKind.i64 104)), (5, Operand.const (Value.int IntKind.i64 32)), (7, Operand.tmp 35)], type := 32, pos := "law.go:19", after := #[{ on := 1, ground := Ground.data }, { on := 3, ground := Ground.data }, { on := 5, ground := Ground.data }, { on := 7, ground := Ground.data }], guard := none }) (v := ?d33_7xv8) rfl (by kernel_rfl) (by kernel_rfl) (by kernel_rfl) (fun _ _ _ h => h) (Or.inl ⟨by rfl, ?d33_7xy8⟩) (by assumption) ?d33_7xr8
        case d33_7xy8 => (intro w hSw; (try dsimp only at hSw); go_simp; try with_reducible rfl)
        (try simp only [Act.put])
        (try simp only [List.setIfInBounds_toArray])
        (try simp only [List.set_cons_succ])
        (try simp only [List.set_cons_zero])
        refine wpAnyH_ready (rs := [9]) (by kernel_rfl) (by simp) ?_
        refine AllReadyH.cons (o := { dst := some 6, op := Op.alloc 32, type := 0, pos := "law.go:19", after := #[], guard := none }) rfl (fun K hK => ?_) AllReadyH.nil
        go_simp
        have hlt_p6 := BB.out.size
        have hlt_p6_R2 := R2.out.lt
        have hlt_p6_R3 := R3.out.lt
        have hlt_p6_L5 := L5.out.lt
        replace R2 := Lib.hid (R2.out.below (below_new v32 (.cells #[.int .i64 0, .int .i64 0, .int .i64 0, .int .i64 0, .int .i64 0, .int .i64 0, .slice none 0 0, .int .i64 0] 32)))
        replace R3 := Lib.hid (R3.out.below (below_new v32 (.cells #[.int .i64 0, .int .i64 0, .int .i64 0, .int .i64 0, .int .i64 0, .int .i64 0, .slice none 0 0, .int .i64 0] 32)))
        replace L5 := Lib.hid (L5.out.below (below_new v32 (.cells #[.int .i64 0, .int .i64 0, .int .i64 0, .int .i64 0, .int .i64 0, .int .i64 0, .slice none 0 0, .int .i64 0] 32)))
        replace HG := Lib.hid (HG.out.below (below_new v32 (.cells #[.int .i64 0, .int .i64 0, .int .i64 0, .int .i64 0, .int .i64 0, .int .i64 0, .slice none 0 0, .int .i64 0] 32)))
        replace BB := Lib.hid (BB.out.trans ((below_new v32 (.cells #[.int .i64 0, .int .i64 0, .int .i64 0, .int .i64 0, .int .i64 0, .int .i64 0, .slice none 0 0, .int .i64 0] 32)).mono BB.out.size))
        have P6 := Lib.hid (Box.new v32 #[.int .i64 0, .int .i64 0, .int .i64 0, .int .i64 0, .int .i64 0, .int .i64 0, .slice none 0 0, .int .i64 0] 32 rfl)
        generalize World.alloc v32 (.cells #[.int .i64 0, .int .i64 0, .int .i64 0, .int .i64 0, .int .i64 0, .int .i64 0, .slice none 0 0, .int .i64 0] 32) = v33 at *
        generalize World.heap v32 = hp_p6 at *
        generalize hp_p6.size = p6 at *
        refine hK.out _ _ ?_ (fun hHeld => ?_)
        · exact ⟨(L5.out.cell 0), (L5.out.cell 1), (L5.out.cell 2)⟩
        clear hK K
        (try simp only [Act.put])
        (try simp only [List.setIfInBounds_toArray])
        (try simp only [List.set_cons_succ])
        (try simp only [List.set_cons_zero])
        refine wpAnyH_ready (rs := [10]) (by kernel_rfl) (by simp) ?_
        refine AllReadyH.cons (o := { dst := none, op := Op.store 32 (Operand.tmp 6) (Operand.tmp 36), type := 0, pos := "law.go:19", after := #[{ on := 9, ground := Ground.data }, { on := 8, ground := Ground.data }, { on := 7, ground := Ground.chain }, { on := 0, ground := Ground.phase }, { on := 1, ground := Ground.phase }, { on := 2, ground := Ground.phase }, { on := 3, ground := Ground.phase }, { on := 4, ground := Ground.phase }, { on := 5, ground := Ground.phase }, { on := 6, ground := Ground.phase }, { on := 7, ground := Ground.phase }, { on := 8, ground := Ground.phase }, { on := 9, ground := Ground.phase }], guard := none }) rfl (fun K hK => ?_) AllReadyH.nil
        obtain ⟨⟨m0, m1, m2, m3, m4, m5, m6, m7⟩, g0, g1, g2, g3, g4, g5, g6, g7⟩ := P6.out.cells8
        go_simp
        clear m0 g0 m1 g1 m2 g2 m3 g3 m4 g4 m5 g5 m6 g6 m7 g7
        replace R2 := Lib.hid (R2.out.only (by omega) (((((((((Only.refl p6 v33).set 0 (.int .i64 T)).set 1 (.int .i64 B)).set 2 (.int .i64 s4)).set 3 (.int .i64 0)).set 4 (.int .i64 104)).set 5 (.int .i64 32)).set 6 (.slice none 0 0)).set 7 (.int .i64 n)))
        replace R3 := Lib.hid (R3.out.only (by omega) (((((((((Only.refl p6 v33).set 0 (.int .i64 T)).set 1 (.int .i64 B)).set 2 (.int .i64 s4)).set 3 (.int .i64 0)).set 4 (.int .i64 104)).set 5 (.int .i64 32)).set 6 (.slice none 0 0)).set 7 (.int .i64 n)))
        replace L5 := Lib.hid (L5.out.only (by omega) (((((((((Only.refl p6 v33).set 0 (.int .i64 T)).set 1 (.int .i64 B)).set 2 (.int .i64 s4)).set 3 (.int .i64 0)).set 4 (.int .i64 104)).set 5 (.int .i64 32)).set 6 (.slice none 0 0)).set 7 (.int .i64 n)))
        replace HG := Lib.hid (gl_only HG.out (by omega) (((((((((Only.refl p6 v33).set 0 (.int .i64 T)).set 1 (.int .i64 B)).set 2 (.int .i64 s4)).set 3 (.int .i64 0)).set 4 (.int .i64 104)).set 5 (.int .i64 32)).set 6 (.slice none 0 0)).set 7 (.int .i64 n)))
        replace BB := Lib.hid (((((((((BB.out).put p6 (by omega) 0 (.int .i64 T)).put p6 (by omega) 1 (.int .i64 B)).put p6 (by omega) 2 (.int .i64 s4)).put p6 (by omega) 3 (.int .i64 0)).put p6 (by omega) 4 (.int .i64 104)).put p6 (by omega) 5 (.int .i64 32)).put p6 (by omega) 6 (.slice none 0 0)).put p6 (by omega) 7 (.int .i64 n))
        replace P6 := Lib.hid (((((((((P6.out).set 0 (.int .i64 T)).set 1 (.int .i64 B)).set 2 (.int .i64 s4)).set 3 (.int .i64 0)).set 4 (.int .i64 104)).set 5 (.int .i64 32)).set 6 (.slice none 0 0)).set 7 (.int .i64 n))
        generalize (World.setCell (World.setCell (World.setCell (World.setCell (World.setCell (World.setCell (World.setCell (World.setCell v33 ⟨p6, 0, none⟩ (.int .i64 T)) ⟨p6, 1, none⟩ (.int .i64 B)) ⟨p6, 2, none⟩ (.int .i64 s4)) ⟨p6, 3, none⟩ (.int .i64 0)) ⟨p6, 4, none⟩ (.int .i64 104)) ⟨p6, 5, none⟩ (.int .i64 32)) ⟨p6, 6, none⟩ (.slice none 0 0)) ⟨p6, 7, none⟩ (.int .i64 n)) = v34 at *
        refine hK.out _ _ ?_ (fun hHeld => ?_)
        · exact ⟨(L5.out.cell 0), (L5.out.cell 1), (L5.out.cell 2)⟩
        clear hK K
        (try simp only [Act.put])
        (try simp only [List.setIfInBounds_toArray])
        (try simp only [List.set_cons_succ])
        (try simp only [List.set_cons_zero])
        refine wpAnyH_done (by kernel_rfl) ?_ _
        go_wp2_with fail
        go_meet
        case rel => exact ⟨_, rfl, by omega, P6.out, L5.out, R2.out, R3.out, HG.out, BB.out⟩
      refine AllReadyH.cons (o := { dst := some 6, op := Op.alloc 32, type := 0, pos := "law.go:19", after := #[], guard := none }) rfl (fun K hK => ?_) AllReadyH.nil
      go_simp
      have hlt_p6 := BB.out.size
      have hlt_p6_R2 := R2.out.lt
      have hlt_p6_R3 := R3.out.lt
      have hlt_p6_L5 := L5.out.lt
      replace R2 := Lib.hid (R2.out.below (below_new v31 (.cells #[.int .i64 0, .int .i64 0, .int .i64 0, .int .i64 0, .int .i64 0, .int .i64 0, .slice none 0 0, .int .i64 0] 32)))
      replace R3 := Lib.hid (R3.out.below (below_new v31 (.cells #[.int .i64 0, .int .i64 0, .int .i64 0, .int .i64 0, .int .i64 0, .int .i64 0, .slice none 0 0, .int .i64 0] 32)))
      replace L5 := Lib.hid (L5.out.below (below_new v31 (.cells #[.int .i64 0, .int .i64 0, .int .i64 0, .int .i64 0, .int .i64 0, .int .i64 0, .slice none 0 0, .int .i64 0] 32)))
      replace HG := Lib.hid (HG.out.below (below_new v31 (.cells #[.int .i64 0, .int .i64 0, .int .i64 0, .int .i64 0, .int .i64 0, .int .i64 0, .slice none 0 0, .int .i64 0] 32)))
      replace BB := Lib.hid (BB.out.trans ((below_new v31 (.cells #[.int .i64 0, .int .i64 0, .int .i64 0, .int .i64 0, .int .i64 0, .int .i64 0, .slice none 0 0, .int .i64 0] 32)).mono BB.out.size))
      have P6 := Lib.hid (Box.new v31 #[.int .i64 0, .int .i64 0, .int .i64 0, .int .i64 0, .int .i64 0, .int .i64 0, .slice none 0 0, .int .i64 0] 32 rfl)
      generalize World.alloc v31 (.cells #[.int .i64 0, .int .i64 0, .int .i64 0, .int .i64 0, .int .i64 0, .int .i64 0, .slice none 0 0, .int .i64 0] 32) = v35 at *
      generalize World.heap v31 = hp_p6 at *
      generalize hp_p6.size = p6 at *
      refine hK.out _ _ ?_ (fun hHeld => ?_)
      · exact ⟨(L5.out.cell 0), (L5.out.cell 1), (L5.out.cell 2)⟩
      clear hK K
      (try simp only [Act.put])
      (try simp only [List.setIfInBounds_toArray])
      (try simp only [List.set_cons_succ])
      (try simp only [List.set_cons_zero])
      refine wpAnyH_ready (rs := [7]) (by kernel_rfl) (by simp) ?_
      refine AllReadyH.cons (o := { dst := some 35, op := Op.call { callee := Callee.value (Operand.func 38), args := #[Operand.tmp 34], argTypes := #[29] }, type := 3, pos := "law.go:19", after := #[{ on := 6, ground := Ground.data }, { on := 5, ground := Ground.chain }], guard := none }) rfl (fun K hK => ?_) AllReadyH.nil
      go_simp
      go_at_call 38
      refine (SZ.out _ HG.out).mono ?_
      rintro e v36 ⟨rfl, hb⟩
      replace R2 := Lib.hid (R2.out.below (hb))
      replace R3 := Lib.hid (R3.out.below (hb))
      replace L5 := Lib.hid (L5.out.below (hb))
      replace HG := Lib.hid (HG.out.below (hb))
      replace P6 := Lib.hid (P6.out.below (hb))
      replace BB := Lib.hid (BB.out.trans ((hb).mono BB.out.size))
      clear hb
      go_simp
      refine hK.out _ _ ?_ (fun hHeld => ?_)
      · exact ⟨(L5.out.cell 0), (L5.out.cell 1), (L5.out.cell 2)⟩
      clear hK K
      (try simp only [Act.put])
      (try simp only [List.setIfInBounds_toArray])
      (try simp only [List.set_cons_succ])
      (try simp only [List.set_cons_zero])
      refine wpAnyH_take (i := 8) (oi := { dst := some 36, op := Op.build 32 #[(0, Operand.tmp 29), (1, Operand.tmp 31), (2, Operand.tmp 33), (4, Operand.const (Value.int IntKind.i64 104)), (5, Operand.const (Value.int IntKind.i64 32)), (7, Operand.tmp 35)], type := 32, pos := "law.go:19", after := #[{ on := 1, ground := Ground.data }, { on := 3, ground := Ground.data }, { on := 5, ground := Ground.data }, { on := 7, ground := Ground.data }], guard := none }) (v := ?d37_8xv8) rfl (by kernel_rfl) (by kernel_rfl) (by kernel_rfl) (fun _ _ _ h => h) (Or.inl ⟨by rfl, ?d37_8xy8⟩) (by assumption) ?d37_8xr8
      case d37_8xy8 => (intro w hSw; (try dsimp only at hSw); go_simp; try with_reducible rfl)
      (try simp only [Act.put])
      (try simp only [List.setIfInBounds_toArray])
      (try simp only [List.set_cons_succ])
      (try simp only [List.set_cons_zero])
      refine wpAnyH_ready (rs := [10]) (by kernel_rfl) (by simp) ?_
      refine AllReadyH.cons (o := { dst := none, op := Op.store 32 (Operand.tmp 6) (Operand.tmp 36), type := 0, pos := "law.go:19", after := #[{ on := 9, ground := Ground.data }, { on := 8, ground := Ground.data }, { on := 7, ground := Ground.chain }, { on := 0, ground := Ground.phase }, { on := 1, ground := Ground.phase }, { on := 2, ground := Ground.phase }, { on := 3, ground := Ground.phase }, { on := 4, ground := Ground.phase }, { on := 5, ground := Ground.phase }, { on := 6, ground := Ground.phase }, { on := 7, ground := Ground.phase }, { on := 8, ground := Ground.phase }, { on := 9, ground := Ground.phase }], guard := none }) rfl (fun K hK => ?_) AllReadyH.nil
      obtain ⟨⟨m0, m1, m2, m3, m4, m5, m6, m7⟩, g0, g1, g2, g3, g4, g5, g6, g7⟩ := P6.out.cells8
      go_simp
      clear m0 g0 m1 g1 m2 g2 m3 g3 m4 g4 m5 g5 m6 g6 m7 g7
      replace R2 := Lib.hid (R2.out.only (by omega) (((((((((Only.refl p6 v36).set 0 (.int .i64 T)).set 1 (.int .i64 B)).set 2 (.int .i64 s4)).set 3 (.int .i64 0)).set 4 (.int .i64 104)).set 5 (.int .i64 32)).set 6 (.slice none 0 0)).set 7 (.int .i64 n)))
      replace R3 := Lib.hid (R3.out.only (by omega) (((((((((Only.refl p6 v36).set 0 (.int .i64 T)).set 1 (.int .i64 B)).set 2 (.int .i64 s4)).set 3 (.int .i64 0)).set 4 (.int .i64 104)).set 5 (.int .i64 32)).set 6 (.slice none 0 0)).set 7 (.int .i64 n)))
      replace L5 := Lib.hid (L5.out.only (by omega) (((((((((Only.refl p6 v36).set 0 (.int .i64 T)).set 1 (.int .i64 B)).set 2 (.int .i64 s4)).set 3 (.int .i64 0)).set 4 (.int .i64 104)).set 5 (.int .i64 32)).set 6 (.slice none 0 0)).set 7 (.int .i64 n)))
      replace HG := Lib.hid (gl_only HG.out (by omega) (((((((((Only.refl p6 v36).set 0 (.int .i64 T)).set 1 (.int .i64 B)).set 2 (.int .i64 s4)).set 3 (.int .i64 0)).set 4 (.int .i64 104)).set 5 (.int .i64 32)).set 6 (.slice none 0 0)).set 7 (.int .i64 n)))
      replace BB := Lib.hid (((((((((BB.out).put p6 (by omega) 0 (.int .i64 T)).put p6 (by omega) 1 (.int .i64 B)).put p6 (by omega) 2 (.int .i64 s4)).put p6 (by omega) 3 (.int .i64 0)).put p6 (by omega) 4 (.int .i64 104)).put p6 (by omega) 5 (.int .i64 32)).put p6 (by omega) 6 (.slice none 0 0)).put p6 (by omega) 7 (.int .i64 n))
      replace P6 := Lib.hid (((((((((P6.out).set 0 (.int .i64 T)).set 1 (.int .i64 B)).set 2 (.int .i64 s4)).set 3 (.int .i64 0)).set 4 (.int .i64 104)).set 5 (.int .i64 32)).set 6 (.slice none 0 0)).set 7 (.int .i64 n))
      generalize (World.setCell (World.setCell (World.setCell (World.setCell (World.setCell (World.setCell (World.setCell (World.setCell v36 ⟨p6, 0, none⟩ (.int .i64 T)) ⟨p6, 1, none⟩ (.int .i64 B)) ⟨p6, 2, none⟩ (.int .i64 s4)) ⟨p6, 3, none⟩ (.int .i64 0)) ⟨p6, 4, none⟩ (.int .i64 104)) ⟨p6, 5, none⟩ (.int .i64 32)) ⟨p6, 6, none⟩ (.slice none 0 0)) ⟨p6, 7, none⟩ (.int .i64 n)) = v37 at *
      refine hK.out _ _ ?_ (fun hHeld => ?_)
      · exact ⟨(L5.out.cell 0), (L5.out.cell 1), (L5.out.cell 2)⟩
      clear hK K
      (try simp only [Act.put])
      (try simp only [List.setIfInBounds_toArray])
      (try simp only [List.set_cons_succ])
      (try simp only [List.set_cons_zero])
      refine wpAnyH_done (by kernel_rfl) ?_ _
      go_wp2_with fail
      go_meet
      case rel => exact ⟨_, rfl, by omega, P6.out, L5.out, R2.out, R3.out, HG.out, BB.out⟩
    refine AllReadyH.cons (o := { dst := some 6, op := Op.alloc 32, type := 0, pos := "law.go:19", after := #[], guard := none }) rfl (fun K hK => ?_) AllReadyH.nil
    go_simp
    have hlt_p6 := BB.out.size
    have hlt_p6_R2 := R2.out.lt
    have hlt_p6_R3 := R3.out.lt
    have hlt_p6_L5 := L5.out.lt
    replace R2 := Lib.hid (R2.out.below (below_new V30 (.cells #[.int .i64 0, .int .i64 0, .int .i64 0, .int .i64 0, .int .i64 0, .int .i64 0, .slice none 0 0, .int .i64 0] 32)))
    replace R3 := Lib.hid (R3.out.below (below_new V30 (.cells #[.int .i64 0, .int .i64 0, .int .i64 0, .int .i64 0, .int .i64 0, .int .i64 0, .slice none 0 0, .int .i64 0] 32)))
    replace L5 := Lib.hid (L5.out.below (below_new V30 (.cells #[.int .i64 0, .int .i64 0, .int .i64 0, .int .i64 0, .int .i64 0, .int .i64 0, .slice none 0 0, .int .i64 0] 32)))
    replace HG := Lib.hid (HG.out.below (below_new V30 (.cells #[.int .i64 0, .int .i64 0, .int .i64 0, .int .i64 0, .int .i64 0, .int .i64 0, .slice none 0 0, .int .i64 0] 32)))
    replace BB := Lib.hid (BB.out.trans ((below_new V30 (.cells #[.int .i64 0, .int .i64 0, .int .i64 0, .int .i64 0, .int .i64 0, .int .i64 0, .slice none 0 0, .int .i64 0] 32)).mono BB.out.size))
    have P6 := Lib.hid (Box.new V30 #[.int .i64 0, .int .i64 0, .int .i64 0, .int .i64 0, .int .i64 0, .int .i64 0, .slice none 0 0, .int .i64 0] 32 rfl)
    generalize World.alloc V30 (.cells #[.int .i64 0, .int .i64 0, .int .i64 0, .int .i64 0, .int .i64 0, .int .i64 0, .slice none 0 0, .int .i64 0] 32) = v38 at *
    generalize World.heap V30 = hp_p6 at *
    generalize hp_p6.size = p6 at *
    refine hK.out _ _ ?_ (fun hHeld => ?_)
    · exact ⟨(L5.out.cell 0), (L5.out.cell 1), (L5.out.cell 2)⟩
    clear hK K
    (try simp only [Act.put])
    (try simp only [List.setIfInBounds_toArray])
    (try simp only [List.set_cons_succ])
    (try simp only [List.set_cons_zero])
    refine wpAnyH_ready (rs := [5]) (by kernel_rfl) (by simp) ?_
    refine AllReadyH.cons (o := { dst := some 33, op := Op.call { callee := Callee.value (Operand.func 37), args := #[Operand.tmp 32, Operand.const (Value.int IntKind.i64 1)], argTypes := #[29, 3] }, type := 44, pos := "law.go:19", after := #[{ on := 4, ground := Ground.data }], guard := none }) rfl (fun K hK => ?_) AllReadyH.nil
    go_simp
    go_at_call 37
    refine (SL.out _ HG.out).mono ?_
    rintro e v39 ⟨rfl, hb⟩
    replace R2 := Lib.hid (R2.out.below (hb))
    replace R3 := Lib.hid (R3.out.below (hb))
    replace L5 := Lib.hid (L5.out.below (hb))
    replace HG := Lib.hid (HG.out.below (hb))
    replace P6 := Lib.hid (P6.out.below (hb))
    replace BB := Lib.hid (BB.out.trans ((hb).mono BB.out.size))
    clear hb
    go_simp
    refine hK.out _ _ ?_ (fun hHeld => ?_)
    · exact ⟨(L5.out.cell 0), (L5.out.cell 1), (L5.out.cell 2)⟩
    clear hK K
    (try simp only [Act.put])
    (try simp only [List.setIfInBounds_toArray])
    (try simp only [List.set_cons_succ])
    (try simp only [List.set_cons_zero])
    refine wpAnyH_ready (rs := [7]) (by kernel_rfl) (by simp) ?_
    refine AllReadyH.cons (o := { dst := some 35, op := Op.call { callee := Callee.value (Operand.func 38), args := #[Operand.tmp 34], argTypes := #[29] }, type := 3, pos := "law.go:19", after := #[{ on := 6, ground := Ground.data }, { on := 5, ground := Ground.chain }], guard := none }) rfl (fun K hK => ?_) AllReadyH.nil
    go_simp
    go_at_call 38
    refine (SZ.out _ HG.out).mono ?_
    rintro e v40 ⟨rfl, hb⟩
    replace R2 := Lib.hid (R2.out.below (hb))
    replace R3 := Lib.hid (R3.out.below (hb))
    replace L5 := Lib.hid (L5.out.below (hb))
    replace HG := Lib.hid (HG.out.below (hb))
    replace P6 := Lib.hid (P6.out.below (hb))
    replace BB := Lib.hid (BB.out.trans ((hb).mono BB.out.size))
    clear hb
    go_simp
    refine hK.out _ _ ?_ (fun hHeld => ?_)
    · exact ⟨(L5.out.cell 0), (L5.out.cell 1), (L5.out.cell 2)⟩
    clear hK K
    (try simp only [Act.put])
    (try simp only [List.setIfInBounds_toArray])
    (try simp only [List.set_cons_succ])
    (try simp only [List.set_cons_zero])
    refine wpAnyH_take (i := 8) (oi := { dst := some 36, op := Op.build 32 #[(0, Operand.tmp 29), (1, Operand.tmp 31), (2, Operand.tmp 33), (4, Operand.const (Value.int IntKind.i64 104)), (5, Operand.const (Value.int IntKind.i64 32)), (7, Operand.tmp 35)], type := 32, pos := "law.go:19", after := #[{ on := 1, ground := Ground.data }, { on := 3, ground := Ground.data }, { on := 5, ground := Ground.data }, { on := 7, ground := Ground.data }], guard := none }) (v := ?d41_9xv8) rfl (by kernel_rfl) (by kernel_rfl) (by kernel_rfl) (fun _ _ _ h => h) (Or.inl ⟨by rfl, ?d41_9xy8⟩) (by assumption) ?d41_9xr8
    case d41_9xy8 => (intro w hSw; (try dsimp only at hSw); go_simp; try with_reducible rfl)
    (try simp only [Act.put])
    (try simp only [List.setIfInBounds_toArray])
    (try simp only [List.set_cons_succ])
    (try simp only [List.set_cons_zero])
    refine wpAnyH_ready (rs := [10]) (by kernel_rfl) (by simp) ?_
    refine AllReadyH.cons (o := { dst := none, op := Op.store 32 (Operand.tmp 6) (Operand.tmp 36), type := 0, pos := "law.go:19", after := #[{ on := 9, ground := Ground.data }, { on := 8, ground := Ground.data }, { on := 7, ground := Ground.chain }, { on := 0, ground := Ground.phase }, { on := 1, ground := Ground.phase }, { on := 2, ground := Ground.phase }, { on := 3, ground := Ground.phase }, { on := 4, ground := Ground.phase }, { on := 5, ground := Ground.phase }, { on := 6, ground := Ground.phase }, { on := 7, ground := Ground.phase }, { on := 8, ground := Ground.phase }, { on := 9, ground := Ground.phase }], guard := none }) rfl (fun K hK => ?_) AllReadyH.nil
    obtain ⟨⟨m0, m1, m2, m3, m4, m5, m6, m7⟩, g0, g1, g2, g3, g4, g5, g6, g7⟩ := P6.out.cells8
    go_simp
    clear m0 g0 m1 g1 m2 g2 m3 g3 m4 g4 m5 g5 m6 g6 m7 g7
    replace R2 := Lib.hid (R2.out.only (by omega) (((((((((Only.refl p6 v40).set 0 (.int .i64 T)).set 1 (.int .i64 B)).set 2 (.int .i64 s4)).set 3 (.int .i64 0)).set 4 (.int .i64 104)).set 5 (.int .i64 32)).set 6 (.slice none 0 0)).set 7 (.int .i64 n)))
    replace R3 := Lib.hid (R3.out.only (by omega) (((((((((Only.refl p6 v40).set 0 (.int .i64 T)).set 1 (.int .i64 B)).set 2 (.int .i64 s4)).set 3 (.int .i64 0)).set 4 (.int .i64 104)).set 5 (.int .i64 32)).set 6 (.slice none 0 0)).set 7 (.int .i64 n)))
    replace L5 := Lib.hid (L5.out.only (by omega) (((((((((Only.refl p6 v40).set 0 (.int .i64 T)).set 1 (.int .i64 B)).set 2 (.int .i64 s4)).set 3 (.int .i64 0)).set 4 (.int .i64 104)).set 5 (.int .i64 32)).set 6 (.slice none 0 0)).set 7 (.int .i64 n)))
    replace HG := Lib.hid (gl_only HG.out (by omega) (((((((((Only.refl p6 v40).set 0 (.int .i64 T)).set 1 (.int .i64 B)).set 2 (.int .i64 s4)).set 3 (.int .i64 0)).set 4 (.int .i64 104)).set 5 (.int .i64 32)).set 6 (.slice none 0 0)).set 7 (.int .i64 n)))
    replace BB := Lib.hid (((((((((BB.out).put p6 (by omega) 0 (.int .i64 T)).put p6 (by omega) 1 (.int .i64 B)).put p6 (by omega) 2 (.int .i64 s4)).put p6 (by omega) 3 (.int .i64 0)).put p6 (by omega) 4 (.int .i64 104)).put p6 (by omega) 5 (.int .i64 32)).put p6 (by omega) 6 (.slice none 0 0)).put p6 (by omega) 7 (.int .i64 n))
    replace P6 := Lib.hid (((((((((P6.out).set 0 (.int .i64 T)).set 1 (.int .i64 B)).set 2 (.int .i64 s4)).set 3 (.int .i64 0)).set 4 (.int .i64 104)).set 5 (.int .i64 32)).set 6 (.slice none 0 0)).set 7 (.int .i64 n))
    generalize (World.setCell (World.setCell (World.setCell (World.setCell (World.setCell (World.setCell (World.setCell (World.setCell v40 ⟨p6, 0, none⟩ (.int .i64 T)) ⟨p6, 1, none⟩ (.int .i64 B)) ⟨p6, 2, none⟩ (.int .i64 s4)) ⟨p6, 3, none⟩ (.int .i64 0)) ⟨p6, 4, none⟩ (.int .i64 104)) ⟨p6, 5, none⟩ (.int .i64 32)) ⟨p6, 6, none⟩ (.slice none 0 0)) ⟨p6, 7, none⟩ (.int .i64 n)) = v41 at *
    refine hK.out _ _ ?_ (fun hHeld => ?_)
    · exact ⟨(L5.out.cell 0), (L5.out.cell 1), (L5.out.cell 2)⟩
    clear hK K
    (try simp only [Act.put])
    (try simp only [List.setIfInBounds_toArray])
    (try simp only [List.set_cons_succ])
    (try simp only [List.set_cons_zero])
    refine wpAnyH_done (by kernel_rfl) ?_ _
    go_wp2_with fail
    go_meet
    case rel => exact ⟨_, rfl, by omega, P6.out, L5.out, R2.out, R3.out, HG.out, BB.out⟩
  case rest =>
    obtain ⟨p6, rfl, hp6, h1, h2, h3, h4, h5, h6⟩ := hcut
    clear R2 R3 L5 HG BB SL
    have P6 := Lib.hid h1
    have L5 := Lib.hid h2
    have R2 := Lib.hid h3
    have R3 := Lib.hid h4
    have HG := Lib.hid h5
    have BB := Lib.hid h6
    clear h1 h2 h3 h4 h5 h6
    have x0 := L5.out.cell 0
    have x1 := L5.out.cell 1
    have x2 := L5.out.cell 2
    simp at x0 x1 x2
    go_upto_if 39 with fail
    clear x0 x1 x2
    go_cut [39] (fun s39 wx => Box wx p6 #[.int .i64 T, .int .i64 B, .int .i64 s4, .int .i64 rm, .int .i64 104, .int .i64 32, .slice none 0 0, .int .i64 n] 32 ∧ Box wx (q + 1 + 1 + 1) #[.int .i64 T, .int .i64 C, .int .i64 B] 29 ∧ Box wx (q + 1) #[.int .i64 0, .int .i64 0, .int .i64 0] 29 ∧ Box wx (q + 1 + 1) #[.int .i64 0, .int .i64 0, .int .i64 0, .int .i64 0, .int .i64 0, .int .i64 0, .slice none 0 0, .int .i64 0] 32 ∧ Lay.Gl wx ∧ Below w.heap.size w wx)
    case first =>
      have x0 := L5.out.cell 0
      have x1 := L5.out.cell 1
      have x2 := L5.out.cell 2
      simp at x0 x1 x2
      by_cases hB : 0 < B
      · have hB' : (0 : Int) < (B : Int) := by omega
        rw [if_pos hB] at RM
        have UB2 := UB.out hB
        rw [← RM.out] at UB2
        rw [UB2] at BK
        clear UB UB2
        go_wp2_with fail
        refine (BK.out _ HG.out).mono ?_
        rintro e w6 ⟨rfl, hb⟩
        replace R2 := Lib.hid (R2.out.below hb)
        replace R3 := Lib.hid (R3.out.below hb)
        replace L5 := Lib.hid (L5.out.below hb)
        replace HG := Lib.hid (HG.out.below hb)
        replace P6 := Lib.hid (P6.out.below hb)
        replace BB := Lib.hid (BB.out.trans (hb.mono BB.out.size))
        clear hb x0 x1 x2
        have m3 := P6.out.cell 3
        have f3 := P6.out.free 3
        have l3 := P6.out.lt
        simp at m3
        go_wp2_with fail
        go_meet
        case rel => exact ⟨P6.out.set 3 _, L5.out.other (by omega) 3 _, R2.out.other (by omega) 3 _, R3.out.other (by omega) 3 _, gl_only HG.out (by omega) ((Only.refl p6 _).set 3 _), BB.out.put p6 (by have := HQ.out; omega) 3 _⟩
      · have hB' : ¬ (0 : Int) < (B : Int) := by omega
        rw [if_neg hB] at RM
        have e := RM.out
        subst e
        go_wp2_with fail
        go_meet
        case rel => exact ⟨P6.out, L5.out, R2.out, R3.out, HG.out, BB.out⟩
    case rest =>
      obtain ⟨h1, h2, h3, h4, h5, h6⟩ := hcut
      clear P6 R2 R3 L5 HG BB UB BK RM
      have P6 := Lib.hid h1
      have L5 := Lib.hid h2
      have R2 := Lib.hid h3
      have R3 := Lib.hid h4
      have HG := Lib.hid h5
      have BB := Lib.hid h6
      clear h1 h2 h3 h4 h5 h6
      go_wp2_with fail
      go_loopw [7] (fun iv wr => ∃ i u, i ≤ n ∧ iv = .int .i64 (i : Nat) ∧ Box wr p6 #[.int .i64 T, .int .i64 B, .int .i64 s4, .int .i64 rm, .int .i64 104, .int .i64 32, u, .int .i64 n] 32 ∧ RowK blE 4 w.heap.size wr u (mayBs T C B i) ∧ Box wr (q + 1 + 1 + 1) #[.int .i64 T, .int .i64 C, .int .i64 B] 29 ∧ Box wr (q + 1) #[.int .i64 0, .int .i64 0, .int .i64 0] 29 ∧ Box wr (q + 1 + 1) #[.int .i64 0, .int .i64 0, .int .i64 0, .int .i64 0, .int .i64 0, .int .i64 0, .slice none 0 0, .int .i64 0] 32 ∧ Lay.Gl wr ∧ Below w.heap.size w wr) (fun iv _ => n - (intOf iv).toNat)
      case atStart => exact ⟨0, _, by omega, rfl, P6.out, RowK.nil _ _ _, L5.out, R2.out, R3.out, HG.out, BB.out⟩
      case round =>
        obtain ⟨i, u, hi, rfl, h1, hr, h2, h3, h4, h5, h6⟩ := hrel
        replace P6 := Lib.hid h1
        replace L5 := Lib.hid h2
        replace R2 := Lib.hid h3
        replace R3 := Lib.hid h4
        replace HG := Lib.hid h5
        replace BB := Lib.hid h6
        have R := Lib.hid hr
        clear h1 h2 h3 h4 h5 h6 hr
        obtain ⟨ra, rc, e6, _⟩ := R.out.form
        rw [mayBs_len] at e6
        subst e6
        by_cases hlt : i < n
        · have TS := Lib.hid (mayBs_succ T C B i)
          have ML := Lib.hid (mayBs_len T C B i)
          obtain ⟨mb, hmb⟩ : ∃ m, mayI T C B i = m := ⟨_, rfl⟩
          have MYi := Lib.hid (fun W h => MY.out (i : Int) W h)
          rw [hmb] at MYi TS
          clear hmb
          have m7 := P6.out.cell 7
          simp at m7
          go_upto_region 10 with fail
          clear m7
          replace R2 := Lib.hid (R2.out.below ((Below.refl _ _).drew))
          replace R3 := Lib.hid (R3.out.below ((Below.refl _ _).drew))
          replace L5 := Lib.hid (L5.out.below ((Below.refl _ _).drew))
          replace HG := Lib.hid (HG.out.below ((Below.refl _ _).drew))
          replace P6 := Lib.hid (P6.out.below ((Below.refl _ _).drew))
          replace R := Lib.hid (R.out.below ((Below.refl _ _).drew))
          replace BB := Lib.hid (BB.out.trans (((Below.refl _ _).drew).mono BB.out.size))
          refine wp_region_held_drew (S := fun w' => w'.cell? ⟨q + 1 + 1 + 1, 0, none⟩ = some (.int .i64 T) ∧ w'.cell? ⟨q + 1 + 1 + 1, 1, none⟩ = some (.int .i64 C) ∧ w'.cell? ⟨q + 1 + 1 + 1, 2, none⟩ = some (.int .i64 B)) (by kernel_rfl) ⟨(L5.out.cell 0), (L5.out.cell 1), (L5.out.cell 2)⟩ (fun hHeld => ?_)
          generalize World.drew wr = V60 at *
          refine wpAnyH_take (i := 0) (oi := { dst := some 49, op := Op.fieldAddr 32 (Operand.tmp 6) 6, type := 0, pos := "law.go:24", after := #[], guard := none }) (v := ?d61_1xv0) rfl (by kernel_rfl) (by kernel_rfl) (by kernel_rfl) (fun _ _ _ h => h) (Or.inl ⟨by rfl, ?d61_1xy0⟩) (by assumption) ?d61_1xr0
          case d61_1xy0 => (intro w hSw; (try dsimp only at hSw); go_simp; try with_reducible rfl)
          (try simp only [Act.put])
          (try simp only [List.setIfInBounds_toArray])
          (try simp only [List.set_cons_succ])
          (try simp only [List.set_cons_zero])
          refine wpAnyH_take (i := 2) (oi := { dst := some 51, op := Op.load 29 (Operand.tmp 5), type := 29, pos := "law.go:24", after := #[], guard := none }) (v := ?d61_2xv2) rfl (by kernel_rfl) (by kernel_rfl) (by kernel_rfl) (fun _ _ _ h => h) (Or.inl ⟨by rfl, ?d61_2xy2⟩) (by assumption) ?d61_2xr2
          case d61_2xy2 => (intro w hSw; (try dsimp only at hSw); go_simp; try with_reducible rfl)
          (try simp only [Act.put])
          (try simp only [List.setIfInBounds_toArray])
          (try simp only [List.set_cons_succ])
          (try simp only [List.set_cons_zero])
          refine wpAnyH_take (i := 3) (oi := { dst := some 52, op := Op.move (Operand.tmp 7), type := 3, pos := "law.go:24", after := #[], guard := none }) (v := ?d61_3xv3) rfl (by kernel_rfl) (by kernel_rfl) (by kernel_rfl) (fun _ _ _ h => h) (Or.inl ⟨by rfl, ?d61_3xy3⟩) (by assumption) ?d61_3xr3
          case d61_3xy3 => (intro w hSw; (try dsimp only at hSw); go_simp; try with_reducible rfl)
          (try simp only [Act.put])
          (try simp only [List.setIfInBounds_toArray])
          (try simp only [List.set_cons_succ])
          (try simp only [List.set_cons_zero])
          refine wpAnyH_ready (rs := [1, 4]) (by kernel_rfl) (by simp) ?_
          refine AllReadyH.cons (o := { dst := some 50, op := Op.load 30 (Operand.tmp 49), type := 30, pos := "law.go:24", after := #[{ on := 0, ground := Ground.data }], guard := none }) rfl (fun K hK => ?_) ?_
          · skip
            have m6 := P6.out.cell 6
            simp at m6
            go_simp
            clear m6
            refine hK.out _ _ ?_ (fun hHeld => ?_)
            · exact ⟨(L5.out.cell 0), (L5.out.cell 1), (L5.out.cell 2)⟩
            clear hK K
            (try simp only [Act.put])
            (try simp only [List.setIfInBounds_toArray])
            (try simp only [List.set_cons_succ])
            (try simp only [List.set_cons_zero])
            refine wpAnyH_ready (rs := [4]) (by kernel_rfl) (by simp) ?_
            refine AllReadyH.cons (o := { dst := some 53, op := Op.call { callee := Callee.value (Operand.func 41), args := #[Operand.tmp 51, Operand.tmp 52], argTypes := #[29, 44] }, type := 4, pos := "law.go:24", after := #[{ on := 2, ground := Ground.data }, { on := 3, ground := Ground.data }], guard := none }) rfl (fun K hK => ?_) AllReadyH.nil
            go_simp
            go_at_call 41
            refine (MYi.out _ HG.out).mono ?_
            rintro e v61 ⟨rfl, hb⟩
            replace R2 := Lib.hid (R2.out.below (hb))
            replace R3 := Lib.hid (R3.out.below (hb))
            replace L5 := Lib.hid (L5.out.below (hb))
            replace HG := Lib.hid (HG.out.below (hb))
            replace P6 := Lib.hid (P6.out.below (hb))
            replace R := Lib.hid (R.out.below (hb))
            replace BB := Lib.hid (BB.out.trans ((hb).mono BB.out.size))
            clear hb
            go_simp
            refine hK.out _ _ ?_ (fun hHeld => ?_)
            · exact ⟨(L5.out.cell 0), (L5.out.cell 1), (L5.out.cell 2)⟩
            clear hK K
            (try simp only [Act.put])
            (try simp only [List.setIfInBounds_toArray])
            (try simp only [List.set_cons_succ])
            (try simp only [List.set_cons_zero])
            refine wpAnyH_ready (rs := [5]) (by kernel_rfl) (by simp) ?_
            refine AllReadyH.cons (o := { dst := some 54, op := Op.buildSlice 30 1 #[(0, Operand.tmp 53)], type := 30, pos := "law.go:24", after := #[{ on := 4, ground := Ground.data }], guard := none }) rfl (fun K hK => ?_) AllReadyH.nil
            go_simp
            replace R2 := Lib.hid (R2.out.below (below_new v61 (.cells #[.bool mb] 4)))
            replace R3 := Lib.hid (R3.out.below (below_new v61 (.cells #[.bool mb] 4)))
            replace L5 := Lib.hid (L5.out.below (below_new v61 (.cells #[.bool mb] 4)))
            replace HG := Lib.hid (HG.out.below (below_new v61 (.cells #[.bool mb] 4)))
            replace P6 := Lib.hid (P6.out.below (below_new v61 (.cells #[.bool mb] 4)))
            replace R := Lib.hid (R.out.below (below_new v61 (.cells #[.bool mb] 4)))
            replace BB := Lib.hid (BB.out.trans ((below_new v61 (.cells #[.bool mb] 4)).mono BB.out.size))
            have SX := Lib.hid (SK.ofBox (E := blE) (Box.new v61 #[.bool mb] 4 rfl) (L := [mb]) (n := 1) (cap := 1) rfl rfl (Nat.le_refl _))
            generalize World.alloc v61 (.cells #[.bool mb] 4) = v62 at *
            generalize World.heap v61 = hp_v62 at *
            generalize hp_v62.size = b_v62 at *
            refine hK.out _ _ ?_ (fun hHeld => ?_)
            · exact ⟨(L5.out.cell 0), (L5.out.cell 1), (L5.out.cell 2)⟩
            clear hK K
            (try simp only [Act.put])
            (try simp only [List.setIfInBounds_toArray])
            (try simp only [List.set_cons_succ])
            (try simp only [List.set_cons_zero])
            refine wpAnyH_ready (rs := [6]) (by kernel_rfl) (by simp) ?_
            refine AllReadyH.cons (o := { dst := some 55, op := Op.call { callee := Callee.builtin Builtin.append, args := #[Operand.tmp 50, Operand.tmp 54], argTypes := #[30, 30] }, type := 30, pos := "law.go:24", after := #[{ on := 1, ground := Ground.data }, { on := 5, ground := Ground.data }, { on := 4, ground := Ground.chain }], guard := none }) rfl (fun K hK => ?_) AllReadyH.nil
            refine step_appK Tryd.underlying30 infoBl rfl (by decide) _ rfl (.tmp 50) (.tmp 54) rfl rfl BB.out R.out rfl SX.out (by simp; rw [ML.out]; omega) ?_
            intro v7 v63 r7 b7 g7
            replace P6 := Lib.hid (P6.out.grown g7 (box_not_rowK R.out P6.out (by decide)))
            replace L5 := Lib.hid (L5.out.grown g7 (box_not_rowK R.out L5.out (by decide)))
            replace R2 := Lib.hid (R2.out.grown g7 (box_not_rowK R.out R2.out (by decide)))
            replace R3 := Lib.hid (R3.out.grown g7 (box_not_rowK R.out R3.out (by decide)))
            replace HG := Lib.hid (HG0.out.below b7)
            replace BB := Lib.hid b7
            obtain ⟨a6, c6, e6⟩ : ∃ a c, v7 = .slice a (i + 1) c := (by obtain ⟨a, c, h, _⟩ := r7.form; exact ⟨a, c, by rw [h, List.length_append, ML.out]; rfl⟩)
            subst e6
            replace R := Lib.hid r7
            clear r7 b7 g7 SX
            refine hK.out _ _ ?_ (fun hHeld => ?_)
            · exact ⟨(L5.out.cell 0), (L5.out.cell 1), (L5.out.cell 2)⟩
            clear hK K
            (try simp only [Act.put])
            (try simp only [List.setIfInBounds_toArray])
            (try simp only [List.set_cons_succ])
            (try simp only [List.set_cons_zero])
            refine wpAnyH_take (i := 7) (oi := { dst := some 56, op := Op.fieldAddr 32 (Operand.tmp 6) 6, type := 0, pos := "law.go:24", after := #[{ on := 0, ground := Ground.phase }, { on := 1, ground := Ground.phase }, { on := 2, ground := Ground.phase }, { on := 3, ground := Ground.phase }, { on := 4, ground := Ground.phase }, { on := 5, ground := Ground.phase }, { on := 6, ground := Ground.phase }], guard := none }) (v := ?d64_4xv7) rfl (by kernel_rfl) (by kernel_rfl) (by kernel_rfl) (fun _ _ _ h => h) (Or.inl ⟨by rfl, ?d64_4xy7⟩) (by assumption) ?d64_4xr7
            case d64_4xy7 => (intro w hSw; (try dsimp only at hSw); go_simp; try with_reducible rfl)
            (try simp only [Act.put])
            (try simp only [List.setIfInBounds_toArray])
            (try simp only [List.set_cons_succ])
            (try simp only [List.set_cons_zero])
            refine wpAnyH_ready (rs := [8]) (by kernel_rfl) (by simp) ?_
            refine AllReadyH.cons (o := { dst := none, op := Op.store 30 (Operand.tmp 56) (Operand.tmp 55), type := 0, pos := "law.go:24", after := #[{ on := 7, ground := Ground.data }, { on := 6, ground := Ground.data }, { on := 6, ground := Ground.chain }, { on := 0, ground := Ground.phase }, { on := 1, ground := Ground.phase }, { on := 2, ground := Ground.phase }, { on := 3, ground := Ground.phase }, { on := 4, ground := Ground.phase }, { on := 5, ground := Ground.phase }, { on := 6, ground := Ground.phase }], guard := none }) rfl (fun K hK => ?_) AllReadyH.nil
            have m6 := P6.out.cell 6
            have f6 := P6.out.free 6
            have l6 := P6.out.lt
            simp at m6
            go_simp
            clear m6 f6 l6
            replace R := Lib.hid (R.out.otherSet (box_not_rowK R.out P6.out (by decide)) 6 (.slice a6 (i + 1) c6))
            replace L5 := Lib.hid (L5.out.only (by omega) ((Only.refl p6 v63).set 6 (.slice a6 (i + 1) c6)))
            replace R2 := Lib.hid (R2.out.only (by omega) ((Only.refl p6 v63).set 6 (.slice a6 (i + 1) c6)))
            replace R3 := Lib.hid (R3.out.only (by omega) ((Only.refl p6 v63).set 6 (.slice a6 (i + 1) c6)))
            replace HG := Lib.hid (gl_only HG.out (by omega) ((Only.refl p6 v63).set 6 (.slice a6 (i + 1) c6)))
            replace BB := Lib.hid (BB.out.put p6 (by have := HQ.out; omega) 6 (.slice a6 (i + 1) c6))
            replace P6 : Hid (Box (World.setCell v63 ⟨p6, 6, none⟩ (.slice a6 (i + 1) c6)) p6 #[.int .i64 T, .int .i64 B, .int .i64 s4, .int .i64 rm, .int .i64 104, .int .i64 32, .slice a6 (i + 1) c6, .int .i64 n] 32) := Lib.hid (P6.out.set 6 (.slice a6 (i + 1) c6))
            generalize (World.setCell v63 ⟨p6, 6, none⟩ (.slice a6 (i + 1) c6)) = v64 at *
            refine hK.out _ _ ?_ (fun hHeld => ?_)
            · exact ⟨(L5.out.cell 0), (L5.out.cell 1), (L5.out.cell 2)⟩
            clear hK K
            (try simp only [Act.put])
            (try simp only [List.setIfInBounds_toArray])
            (try simp only [List.set_cons_succ])
            (try simp only [List.set_cons_zero])
            refine wpAnyH_done (by kernel_rfl) ?_ _
            go_wp2_with fail
            go_roundw
            case rel => exact ⟨i + 1, _, by omega, by go_num, P6.out, by rw [TS.out]; exact R.out, L5.out, R2.out, R3.out, HG.out, BB.out⟩
            case measure => simp [intOf]; omega
          refine AllReadyH.cons (o := { dst := some 53, op := Op.call { callee := Callee.value (Operand.func 41), args := #[Operand.tmp 51, Operand.tmp 52], argTypes := #[29, 44] }, type := 4, pos := "law.go:24", after := #[{ on := 2, ground := Ground.data }, { on := 3, ground := Ground.data }], guard := none }) rfl (fun K hK => ?_) AllReadyH.nil
          go_simp
          go_at_call 41
          refine (MYi.out _ HG.out).mono ?_
          rintro e v65 ⟨rfl, hb⟩
          replace R2 := Lib.hid (R2.out.below (hb))
          replace R3 := Lib.hid (R3.out.below (hb))
          replace L5 := Lib.hid (L5.out.below (hb))
          replace HG := Lib.hid (HG.out.below (hb))
          replace P6 := Lib.hid (P6.out.below (hb))
          replace R := Lib.hid (R.out.below (hb))
          replace BB := Lib.hid (BB.out.trans ((hb).mono BB.out.size))
          clear hb
          go_simp
          refine hK.out _ _ ?_ (fun hHeld => ?_)
          · exact ⟨(L5.out.cell 0), (L5.out.cell 1), (L5.out.cell 2)⟩
          clear hK K
          (try simp only [Act.put])
          (try simp only [List.setIfInBounds_toArray])
          (try simp only [List.set_cons_succ])
          (try simp only [List.set_cons_zero])
          refine wpAnyH_ready (rs := [1, 5]) (by kernel_rfl) (by simp) ?_
          refine AllReadyH.cons (o := { dst := some 50, op := Op.load 30 (Operand.tmp 49), type := 30, pos := "law.go:24", after := #[{ on := 0, ground := Ground.data }], guard := none }) rfl (fun K hK => ?_) ?_
          · skip
            have m6 := P6.out.cell 6
            simp at m6
            go_simp
            clear m6
            refine hK.out _ _ ?_ (fun hHeld => ?_)
            · exact ⟨(L5.out.cell 0), (L5.out.cell 1), (L5.out.cell 2)⟩
            clear hK K
            (try simp only [Act.put])
            (try simp only [List.setIfInBounds_toArray])
            (try simp only [List.set_cons_succ])
            (try simp only [List.set_cons_zero])
            refine wpAnyH_ready (rs := [5]) (by kernel_rfl) (by simp) ?_
            refine AllReadyH.cons (o := { dst := some 54, op := Op.buildSlice 30 1 #[(0, Operand.tmp 53)], type := 30, pos := "law.go:24", after := #[{ on := 4, ground := Ground.data }], guard := none }) rfl (fun K hK => ?_) AllReadyH.nil
            go_simp
            replace R2 := Lib.hid (R2.out.below (below_new v65 (.cells #[.bool mb] 4)))
            replace R3 := Lib.hid (R3.out.below (below_new v65 (.cells #[.bool mb] 4)))
            replace L5 := Lib.hid (L5.out.below (below_new v65 (.cells #[.bool mb] 4)))
            replace HG := Lib.hid (HG.out.below (below_new v65 (.cells #[.bool mb] 4)))
            replace P6 := Lib.hid (P6.out.below (below_new v65 (.cells #[.bool mb] 4)))
            replace R := Lib.hid (R.out.below (below_new v65 (.cells #[.bool mb] 4)))
            replace BB := Lib.hid (BB.out.trans ((below_new v65 (.cells #[.bool mb] 4)).mono BB.out.size))
            have SX := Lib.hid (SK.ofBox (E := blE) (Box.new v65 #[.bool mb] 4 rfl) (L := [mb]) (n := 1) (cap := 1) rfl rfl (Nat.le_refl _))
            generalize World.alloc v65 (.cells #[.bool mb] 4) = v66 at *
            generalize World.heap v65 = hp_v66 at *
            generalize hp_v66.size = b_v66 at *
            refine hK.out _ _ ?_ (fun hHeld => ?_)
            · exact ⟨(L5.out.cell 0), (L5.out.cell 1), (L5.out.cell 2)⟩
            clear hK K
            (try simp only [Act.put])
            (try simp only [List.setIfInBounds_toArray])
            (try simp only [List.set_cons_succ])
            (try simp only [List.set_cons_zero])
            refine wpAnyH_ready (rs := [6]) (by kernel_rfl) (by simp) ?_
            refine AllReadyH.cons (o := { dst := some 55, op := Op.call { callee := Callee.builtin Builtin.append, args := #[Operand.tmp 50, Operand.tmp 54], argTypes := #[30, 30] }, type := 30, pos := "law.go:24", after := #[{ on := 1, ground := Ground.data }, { on := 5, ground := Ground.data }, { on := 4, ground := Ground.chain }], guard := none }) rfl (fun K hK => ?_) AllReadyH.nil
            refine step_appK Tryd.underlying30 infoBl rfl (by decide) _ rfl (.tmp 50) (.tmp 54) rfl rfl BB.out R.out rfl SX.out (by simp; rw [ML.out]; omega) ?_
            intro v7 v67 r7 b7 g7
            replace P6 := Lib.hid (P6.out.grown g7 (box_not_rowK R.out P6.out (by decide)))
            replace L5 := Lib.hid (L5.out.grown g7 (box_not_rowK R.out L5.out (by decide)))
            replace R2 := Lib.hid (R2.out.grown g7 (box_not_rowK R.out R2.out (by decide)))
            replace R3 := Lib.hid (R3.out.grown g7 (box_not_rowK R.out R3.out (by decide)))
            replace HG := Lib.hid (HG0.out.below b7)
            replace BB := Lib.hid b7
            obtain ⟨a6, c6, e6⟩ : ∃ a c, v7 = .slice a (i + 1) c := (by obtain ⟨a, c, h, _⟩ := r7.form; exact ⟨a, c, by rw [h, List.length_append, ML.out]; rfl⟩)
            subst e6
            replace R := Lib.hid r7
            clear r7 b7 g7 SX
            refine hK.out _ _ ?_ (fun hHeld => ?_)
            · exact ⟨(L5.out.cell 0), (L5.out.cell 1), (L5.out.cell 2)⟩
            clear hK K
            (try simp only [Act.put])
            (try simp only [List.setIfInBounds_toArray])
            (try simp only [List.set_cons_succ])
            (try simp only [List.set_cons_zero])
            refine wpAnyH_take (i := 7) (oi := { dst := some 56, op := Op.fieldAddr 32 (Operand.tmp 6) 6, type := 0, pos := "law.go:24", after := #[{ on := 0, ground := Ground.phase }, { on := 1, ground := Ground.phase }, { on := 2, ground := Ground.phase }, { on := 3, ground := Ground.phase }, { on := 4, ground := Ground.phase }, { on := 5, ground := Ground.phase }, { on := 6, ground := Ground.phase }], guard := none }) (v := ?d68_5xv7) rfl (by kernel_rfl) (by kernel_rfl) (by kernel_rfl) (fun _ _ _ h => h) (Or.inl ⟨by rfl, ?d68_5xy7⟩) (by assumption) ?d68_5xr7
            case d68_5xy7 => (intro w hSw; (try dsimp only at hSw); go_simp; try with_reducible rfl)
            (try simp only [Act.put])
            (try simp only [List.setIfInBounds_toArray])
            (try simp only [List.set_cons_succ])
            (try simp only [List.set_cons_zero])
            refine wpAnyH_ready (rs := [8]) (by kernel_rfl) (by simp) ?_
            refine AllReadyH.cons (o := { dst := none, op := Op.store 30 (Operand.tmp 56) (Operand.tmp 55), type := 0, pos := "law.go:24", after := #[{ on := 7, ground := Ground.data }, { on := 6, ground := Ground.data }, { on := 6, ground := Ground.chain }, { on := 0, ground := Ground.phase }, { on := 1, ground := Ground.phase }, { on := 2, ground := Ground.phase }, { on := 3, ground := Ground.phase }, { on := 4, ground := Ground.phase }, { on := 5, ground := Ground.phase }, { on := 6, ground := Ground.phase }], guard := none }) rfl (fun K hK => ?_) AllReadyH.nil
            have m6 := P6.out.cell 6
            have f6 := P6.out.free 6
            have l6 := P6.out.lt
            simp at m6
            go_simp
            clear m6 f6 l6
            replace R := Lib.hid (R.out.otherSet (box_not_rowK R.out P6.out (by decide)) 6 (.slice a6 (i + 1) c6))
            replace L5 := Lib.hid (L5.out.only (by omega) ((Only.refl p6 v67).set 6 (.slice a6 (i + 1) c6)))
            replace R2 := Lib.hid (R2.out.only (by omega) ((Only.refl p6 v67).set 6 (.slice a6 (i + 1) c6)))
            replace R3 := Lib.hid (R3.out.only (by omega) ((Only.refl p6 v67).set 6 (.slice a6 (i + 1) c6)))
            replace HG := Lib.hid (gl_only HG.out (by omega) ((Only.refl p6 v67).set 6 (.slice a6 (i + 1) c6)))
            replace BB := Lib.hid (BB.out.put p6 (by have := HQ.out; omega) 6 (.slice a6 (i + 1) c6))
            replace P6 : Hid (Box (World.setCell v67 ⟨p6, 6, none⟩ (.slice a6 (i + 1) c6)) p6 #[.int .i64 T, .int .i64 B, .int .i64 s4, .int .i64 rm, .int .i64 104, .int .i64 32, .slice a6 (i + 1) c6, .int .i64 n] 32) := Lib.hid (P6.out.set 6 (.slice a6 (i + 1) c6))
            generalize (World.setCell v67 ⟨p6, 6, none⟩ (.slice a6 (i + 1) c6)) = v68 at *
            refine hK.out _ _ ?_ (fun hHeld => ?_)
            · exact ⟨(L5.out.cell 0), (L5.out.cell 1), (L5.out.cell 2)⟩
            clear hK K
            (try simp only [Act.put])
            (try simp only [List.setIfInBounds_toArray])
            (try simp only [List.set_cons_succ])
            (try simp only [List.set_cons_zero])
            refine wpAnyH_done (by kernel_rfl) ?_ _
            go_wp2_with fail
            go_roundw
            case rel => exact ⟨i + 1, _, by omega, by go_num, P6.out, by rw [TS.out]; exact R.out, L5.out, R2.out, R3.out, HG.out, BB.out⟩
            case measure => simp [intOf]; omega
          refine AllReadyH.cons (o := { dst := some 54, op := Op.buildSlice 30 1 #[(0, Operand.tmp 53)], type := 30, pos := "law.go:24", after := #[{ on := 4, ground := Ground.data }], guard := none }) rfl (fun K hK => ?_) AllReadyH.nil
          go_simp
          replace R2 := Lib.hid (R2.out.below (below_new v65 (.cells #[.bool mb] 4)))
          replace R3 := Lib.hid (R3.out.below (below_new v65 (.cells #[.bool mb] 4)))
          replace L5 := Lib.hid (L5.out.below (below_new v65 (.cells #[.bool mb] 4)))
          replace HG := Lib.hid (HG.out.below (below_new v65 (.cells #[.bool mb] 4)))
          replace P6 := Lib.hid (P6.out.below (below_new v65 (.cells #[.bool mb] 4)))
          replace R := Lib.hid (R.out.below (below_new v65 (.cells #[.bool mb] 4)))
          replace BB := Lib.hid (BB.out.trans ((below_new v65 (.cells #[.bool mb] 4)).mono BB.out.size))
          have SX := Lib.hid (SK.ofBox (E := blE) (Box.new v65 #[.bool mb] 4 rfl) (L := [mb]) (n := 1) (cap := 1) rfl rfl (Nat.le_refl _))
          generalize World.alloc v65 (.cells #[.bool mb] 4) = v69 at *
          generalize World.heap v65 = hp_v69 at *
          generalize hp_v69.size = b_v69 at *
          refine hK.out _ _ ?_ (fun hHeld => ?_)
          · exact ⟨(L5.out.cell 0), (L5.out.cell 1), (L5.out.cell 2)⟩
          clear hK K
          (try simp only [Act.put])
          (try simp only [List.setIfInBounds_toArray])
          (try simp only [List.set_cons_succ])
          (try simp only [List.set_cons_zero])
          refine wpAnyH_ready (rs := [1]) (by kernel_rfl) (by simp) ?_
          refine AllReadyH.cons (o := { dst := some 50, op := Op.load 30 (Operand.tmp 49), type := 30, pos := "law.go:24", after := #[{ on := 0, ground := Ground.data }], guard := none }) rfl (fun K hK => ?_) AllReadyH.nil
          have m6 := P6.out.cell 6
          simp at m6
          go_simp
          clear m6
          refine hK.out _ _ ?_ (fun hHeld => ?_)
          · exact ⟨(L5.out.cell 0), (L5.out.cell 1), (L5.out.cell 2)⟩
          clear hK K
          (try simp only [Act.put])
          (try simp only [List.setIfInBounds_toArray])
          (try simp only [List.set_cons_succ])
          (try simp only [List.set_cons_zero])
          refine wpAnyH_ready (rs := [6]) (by kernel_rfl) (by simp) ?_
          refine AllReadyH.cons (o := { dst := some 55, op := Op.call { callee := Callee.builtin Builtin.append, args := #[Operand.tmp 50, Operand.tmp 54], argTypes := #[30, 30] }, type := 30, pos := "law.go:24", after := #[{ on := 1, ground := Ground.data }, { on := 5, ground := Ground.data }, { on := 4, ground := Ground.chain }], guard := none }) rfl (fun K hK => ?_) AllReadyH.nil
          refine step_appK Tryd.underlying30 infoBl rfl (by decide) _ rfl (.tmp 50) (.tmp 54) rfl rfl BB.out R.out rfl SX.out (by simp; rw [ML.out]; omega) ?_
          intro v7 v70 r7 b7 g7
          replace P6 := Lib.hid (P6.out.grown g7 (box_not_rowK R.out P6.out (by decide)))
          replace L5 := Lib.hid (L5.out.grown g7 (box_not_rowK R.out L5.out (by decide)))
          replace R2 := Lib.hid (R2.out.grown g7 (box_not_rowK R.out R2.out (by decide)))
          replace R3 := Lib.hid (R3.out.grown g7 (box_not_rowK R.out R3.out (by decide)))
          replace HG := Lib.hid (HG0.out.below b7)
          replace BB := Lib.hid b7
          obtain ⟨a6, c6, e6⟩ : ∃ a c, v7 = .slice a (i + 1) c := (by obtain ⟨a, c, h, _⟩ := r7.form; exact ⟨a, c, by rw [h, List.length_append, ML.out]; rfl⟩)
          subst e6
          replace R := Lib.hid r7
          clear r7 b7 g7 SX
          refine hK.out _ _ ?_ (fun hHeld => ?_)
          · exact ⟨(L5.out.cell 0), (L5.out.cell 1), (L5.out.cell 2)⟩
          clear hK K
          (try simp only [Act.put])
          (try simp only [List.setIfInBounds_toArray])
          (try simp only [List.set_cons_succ])
          (try simp only [List.set_cons_zero])
          refine wpAnyH_take (i := 7) (oi := { dst := some 56, op := Op.fieldAddr 32 (Operand.tmp 6) 6, type := 0, pos := "law.go:24", after := #[{ on := 0, ground := Ground.phase }, { on := 1, ground := Ground.phase }, { on := 2, ground := Ground.phase }, { on := 3, ground := Ground.phase }, { on := 4, ground := Ground.phase }, { on := 5, ground := Ground.phase }, { on := 6, ground := Ground.phase }], guard := none }) (v := ?d71_6xv7) rfl (by kernel_rfl) (by kernel_rfl) (by kernel_rfl) (fun _ _ _ h => h) (Or.inl ⟨by rfl, ?d71_6xy7⟩) (by assumption) ?d71_6xr7
          case d71_6xy7 => (intro w hSw; (try dsimp only at hSw); go_simp; try with_reducible rfl)
          (try simp only [Act.put])
          (try simp only [List.setIfInBounds_toArray])
          (try simp only [List.set_cons_succ])
          (try simp only [List.set_cons_zero])
          refine wpAnyH_ready (rs := [8]) (by kernel_rfl) (by simp) ?_
          refine AllReadyH.cons (o := { dst := none, op := Op.store 30 (Operand.tmp 56) (Operand.tmp 55), type := 0, pos := "law.go:24", after := #[{ on := 7, ground := Ground.data }, { on := 6, ground := Ground.data }, { on := 6, ground := Ground.chain }, { on := 0, ground := Ground.phase }, { on := 1, ground := Ground.phase }, { on := 2, ground := Ground.phase }, { on := 3, ground := Ground.phase }, { on := 4, ground := Ground.phase }, { on := 5, ground := Ground.phase }, { on := 6, ground := Ground.phase }], guard := none }) rfl (fun K hK => ?_) AllReadyH.nil
          have m6 := P6.out.cell 6
          have f6 := P6.out.free 6
          have l6 := P6.out.lt
          simp at m6
          go_simp
          clear m6 f6 l6
          replace R := Lib.hid (R.out.otherSet (box_not_rowK R.out P6.out (by decide)) 6 (.slice a6 (i + 1) c6))
          replace L5 := Lib.hid (L5.out.only (by omega) ((Only.refl p6 v70).set 6 (.slice a6 (i + 1) c6)))
          replace R2 := Lib.hid (R2.out.only (by omega) ((Only.refl p6 v70).set 6 (.slice a6 (i + 1) c6)))
          replace R3 := Lib.hid (R3.out.only (by omega) ((Only.refl p6 v70).set 6 (.slice a6 (i + 1) c6)))
          replace HG := Lib.hid (gl_only HG.out (by omega) ((Only.refl p6 v70).set 6 (.slice a6 (i + 1) c6)))
          replace BB := Lib.hid (BB.out.put p6 (by have := HQ.out; omega) 6 (.slice a6 (i + 1) c6))
          replace P6 : Hid (Box (World.setCell v70 ⟨p6, 6, none⟩ (.slice a6 (i + 1) c6)) p6 #[.int .i64 T, .int .i64 B, .int .i64 s4, .int .i64 rm, .int .i64 104, .int .i64 32, .slice a6 (i + 1) c6, .int .i64 n] 32) := Lib.hid (P6.out.set 6 (.slice a6 (i + 1) c6))
          generalize (World.setCell v70 ⟨p6, 6, none⟩ (.slice a6 (i + 1) c6)) = v71 at *
          refine hK.out _ _ ?_ (fun hHeld => ?_)
          · exact ⟨(L5.out.cell 0), (L5.out.cell 1), (L5.out.cell 2)⟩
          clear hK K
          (try simp only [Act.put])
          (try simp only [List.setIfInBounds_toArray])
          (try simp only [List.set_cons_succ])
          (try simp only [List.set_cons_zero])
          refine wpAnyH_done (by kernel_rfl) ?_ _
          go_wp2_with fail
          go_roundw
          case rel => exact ⟨i + 1, _, by omega, by go_num, P6.out, by rw [TS.out]; exact R.out, L5.out, R2.out, R3.out, HG.out, BB.out⟩
          case measure => simp [intOf]; omega
        · obtain rfl : i = n := by omega
          have m7 := P6.out.cell 7
          simp at m7
          have hq0 : w.heap.size ≤ q := Nat.le_of_eq HQ.out
          go_upto_region 11 with fail
          clear m7
          replace R2 := Lib.hid (R2.out.below ((Below.refl _ _).drew))
          replace R3 := Lib.hid (R3.out.below ((Below.refl _ _).drew))
          replace L5 := Lib.hid (L5.out.below ((Below.refl _ _).drew))
          replace HG := Lib.hid (HG.out.below ((Below.refl _ _).drew))
          replace P6 := Lib.hid (P6.out.below ((Below.refl _ _).drew))
          replace R := Lib.hid (R.out.below ((Below.refl _ _).drew))
          replace BB := Lib.hid (BB.out.trans (((Below.refl _ _).drew).mono BB.out.size))
          refine wp_region_held_drew (S := fun w' => w'.cell? ⟨q + 1 + 1 + 1, 0, none⟩ = some (.int .i64 T) ∧ w'.cell? ⟨q + 1 + 1 + 1, 1, none⟩ = some (.int .i64 C) ∧ w'.cell? ⟨q + 1 + 1 + 1, 2, none⟩ = some (.int .i64 B) ∧ w'.cell? ⟨p6, 0, none⟩ = some (.int .i64 T) ∧ w'.cell? ⟨p6, 1, none⟩ = some (.int .i64 B) ∧ w'.cell? ⟨p6, 2, none⟩ = some (.int .i64 s4) ∧ w'.cell? ⟨p6, 3, none⟩ = some (.int .i64 rm) ∧ w'.cell? ⟨p6, 4, none⟩ = some (.int .i64 104) ∧ w'.cell? ⟨p6, 5, none⟩ = some (.int .i64 32) ∧ w'.cell? ⟨p6, 6, none⟩ = some (.slice ra i rc) ∧ w'.cell? ⟨p6, 7, none⟩ = some (.int .i64 i)) (by kernel_rfl) ⟨(L5.out.cell 0), (L5.out.cell 1), (L5.out.cell 2), (P6.out.cell 0), (P6.out.cell 1), (P6.out.cell 2), (P6.out.cell 3), (P6.out.cell 4), (P6.out.cell 5), (P6.out.cell 6), (P6.out.cell 7)⟩ (fun hHeld => ?_)
          generalize World.drew wr = V90 at *
          refine wpAnyH_take (i := 0) (oi := { dst := some 57, op := Op.load 29 (Operand.tmp 5), type := 29, pos := "law.go:26", after := #[], guard := none }) (v := ?d91_1xv0) rfl (by kernel_rfl) (by kernel_rfl) (by kernel_rfl) (fun _ _ _ h => h) (Or.inl ⟨by rfl, ?d91_1xy0⟩) (by assumption) ?d91_1xr0
          case d91_1xy0 => (intro w hSw; (try dsimp only at hSw); go_simp; try with_reducible rfl)
          (try simp only [Act.put])
          (try simp only [List.setIfInBounds_toArray])
          (try simp only [List.set_cons_succ])
          (try simp only [List.set_cons_zero])
          refine wpAnyH_take (i := 1) (oi := { dst := some 58, op := Op.load 32 (Operand.tmp 6), type := 32, pos := "law.go:26", after := #[{ on := 8, ground := Ground.gcOnly Departure.lateStores }], guard := none }) (v := ?d91_2xv1) rfl (by kernel_rfl) (by kernel_rfl) (by kernel_rfl) (fun _ _ _ h => h) (Or.inl ⟨by rfl, ?d91_2xy1⟩) (by assumption) ?d91_2xr1
          case d91_2xy1 => (intro w hSw; (try dsimp only at hSw); go_simp; try with_reducible rfl)
          (try simp only [Act.put])
          (try simp only [List.setIfInBounds_toArray])
          (try simp only [List.set_cons_succ])
          (try simp only [List.set_cons_zero])
          refine wpAnyH_take (i := 2) (oi := { dst := some 59, op := Op.fieldAddr 32 (Operand.tmp 6) 7, type := 0, pos := "law.go:26", after := #[{ on := 9, ground := Ground.gcOnly Departure.lateStores }], guard := none }) (v := ?d91_3xv2) rfl (by kernel_rfl) (by kernel_rfl) (by kernel_rfl) (fun _ _ _ h => h) (Or.inl ⟨by rfl, ?d91_3xy2⟩) (by assumption) ?d91_3xr2
          case d91_3xy2 => (intro w hSw; (try dsimp only at hSw); go_simp; try with_reducible rfl)
          (try simp only [Act.put])
          (try simp only [List.setIfInBounds_toArray])
          (try simp only [List.set_cons_succ])
          (try simp only [List.set_cons_zero])
          refine wpAnyH_take (i := 3) (oi := { dst := some 60, op := Op.load 3 (Operand.tmp 59), type := 3, pos := "law.go:26", after := #[{ on := 2, ground := Ground.data }, { on := 9, ground := Ground.gcOnly Departure.lateStores }], guard := none }) (v := ?d91_4xv3) rfl (by kernel_rfl) (by kernel_rfl) (by kernel_rfl) (fun _ _ _ h => h) (Or.inl ⟨by rfl, ?d91_4xy3⟩) (by assumption) ?d91_4xr3
          case d91_4xy3 => (intro w hSw; (try dsimp only at hSw); go_simp; try with_reducible rfl)
          (try simp only [Act.put])
          (try simp only [List.setIfInBounds_toArray])
          (try simp only [List.set_cons_succ])
          (try simp only [List.set_cons_zero])
          refine wpAnyH_take (i := 4) (oi := { dst := some 61, op := Op.load 29 (Operand.tmp 5), type := 29, pos := "law.go:26", after := #[], guard := none }) (v := ?d91_5xv4) rfl (by kernel_rfl) (by kernel_rfl) (by kernel_rfl) (fun _ _ _ h => h) (Or.inl ⟨by rfl, ?d91_5xy4⟩) (by assumption) ?d91_5xr4
          case d91_5xy4 => (intro w hSw; (try dsimp only at hSw); go_simp; try with_reducible rfl)
          (try simp only [Act.put])
          (try simp only [List.setIfInBounds_toArray])
          (try simp only [List.set_cons_succ])
          (try simp only [List.set_cons_zero])
          refine wpAnyH_ready (rs := [5]) (by kernel_rfl) (by simp) ?_
          refine AllReadyH.cons (o := { dst := some 62, op := Op.call { callee := Callee.value (Operand.func 20), args := #[Operand.tmp 61], argTypes := #[29] }, type := 35, pos := "law.go:26", after := #[{ on := 4, ground := Ground.data }], guard := none }) rfl (fun K hK => ?_) AllReadyH.nil
          go_simp
          go_at_call 20
          refine (FI.out _ HG.out).mono ?_
          rintro e v91 ⟨bz, rfl, -, -, hb⟩
          replace R2 := Lib.hid (R2.out.below (hb))
          replace R3 := Lib.hid (R3.out.below (hb))
          replace L5 := Lib.hid (L5.out.below (hb))
          replace HG := Lib.hid (HG.out.below (hb))
          replace P6 := Lib.hid (P6.out.below (hb))
          replace R := Lib.hid (R.out.below (hb))
          replace BB := Lib.hid (BB.out.trans ((hb).mono BB.out.size))
          clear hb
          go_simp
          refine hK.out _ _ ?_ (fun hHeld => ?_)
          · exact ⟨(L5.out.cell 0), (L5.out.cell 1), (L5.out.cell 2), (P6.out.cell 0), (P6.out.cell 1), (P6.out.cell 2), (P6.out.cell 3), (P6.out.cell 4), (P6.out.cell 5), (P6.out.cell 6), (P6.out.cell 7)⟩
          clear hK K
          (try simp only [Act.put])
          (try simp only [List.setIfInBounds_toArray])
          (try simp only [List.set_cons_succ])
          (try simp only [List.set_cons_zero])
          refine wpAnyH_take (i := 6) (oi := { dst := some 63, op := Op.call { callee := Callee.builtin Builtin.len, args := #[Operand.tmp 62], argTypes := #[35] }, type := 3, pos := "law.go:26", after := #[{ on := 5, ground := Ground.data }], guard := none }) (v := ?d92_6xv6) rfl (by kernel_rfl) (by kernel_rfl) (by kernel_rfl) (fun _ _ _ h => h) (Or.inl ⟨by rfl, ?d92_6xy6⟩) (by assumption) ?d92_6xr6
          case d92_6xy6 => (intro w hSw; (try dsimp only at hSw); go_simp; try with_reducible rfl)
          (try simp only [Act.put])
          (try simp only [List.setIfInBounds_toArray])
          (try simp only [List.set_cons_succ])
          (try simp only [List.set_cons_zero])
          refine wpAnyH_take (i := 7) (oi := { dst := some 64, op := Op.binOp BinOp.eql 3 (Operand.tmp 60) (Operand.tmp 63) 3, type := 4, pos := "law.go:26", after := #[{ on := 3, ground := Ground.data }, { on := 6, ground := Ground.data }, { on := 9, ground := Ground.gcOnly Departure.lateStores }], guard := none }) (v := ?d92_7xv7) rfl (by kernel_rfl) (by kernel_rfl) (by kernel_rfl) (fun _ _ _ h => h) (Or.inl ⟨by rfl, ?d92_7xy7⟩) (by assumption) ?d92_7xr7
          case d92_7xy7 => (intro w hSw; (try dsimp only at hSw); go_simp; try with_reducible rfl)
          (try simp only [Act.put])
          (try simp only [List.setIfInBounds_toArray])
          (try simp only [List.set_cons_succ])
          (try simp only [List.set_cons_zero])
          refine wpAnyH_ready (rs := [8]) (by kernel_rfl) (by simp) ?_
          refine AllReadyH.cons (o := { dst := none, op := Op.store 29 (Operand.tmp 2) (Operand.tmp 57), type := 0, pos := "law.go:26", after := #[{ on := 0, ground := Ground.data }, { on := 5, ground := Ground.chain }, { on := 0, ground := Ground.phase }, { on := 1, ground := Ground.textOnly Departure.lateStores }, { on := 2, ground := Ground.textOnly Departure.lateStores }, { on := 3, ground := Ground.textOnly Departure.lateStores }, { on := 4, ground := Ground.textOnly Departure.lateStores }, { on := 5, ground := Ground.textOnly Departure.lateStoresUnsure }, { on := 6, ground := Ground.textOnly Departure.lateStoresUnsure }, { on := 7, ground := Ground.textOnly Departure.lateStores }], guard := none }) rfl (fun K hK => ?_) AllReadyH.nil
          obtain ⟨⟨m0, m1, m2⟩, g0, g1, g2⟩ := R2.out.cells3
          go_simp
          clear m0 g0 m1 g1 m2 g2
          replace R3 := Lib.hid (R3.out.only (by omega) ((((Only.refl (q + 1) v91).set 0 (.int .i64 T)).set 1 (.int .i64 C)).set 2 (.int .i64 B)))
          replace L5 := Lib.hid (L5.out.only (by omega) ((((Only.refl (q + 1) v91).set 0 (.int .i64 T)).set 1 (.int .i64 C)).set 2 (.int .i64 B)))
          replace HG := Lib.hid (gl_only HG.out (by omega) ((((Only.refl (q + 1) v91).set 0 (.int .i64 T)).set 1 (.int .i64 C)).set 2 (.int .i64 B)))
          replace P6 := Lib.hid (P6.out.only (by omega) ((((Only.refl (q + 1) v91).set 0 (.int .i64 T)).set 1 (.int .i64 C)).set 2 (.int .i64 B)))
          replace R := Lib.hid ((((R.out.otherSet (box_not_rowK R.out R2.out (by decide)) 0 (.int .i64 T)).otherSet (box_not_rowK R.out R2.out (by decide)) 1 (.int .i64 C)).otherSet (box_not_rowK R.out R2.out (by decide)) 2 (.int .i64 B)))
          replace BB := Lib.hid ((((BB.out).put (q + 1) (by omega) 0 (.int .i64 T)).put (q + 1) (by omega) 1 (.int .i64 C)).put (q + 1) (by omega) 2 (.int .i64 B))
          replace R2 := Lib.hid ((((R2.out).set 0 (.int .i64 T)).set 1 (.int .i64 C)).set 2 (.int .i64 B))
          generalize (World.setCell (World.setCell (World.setCell v91 ⟨(q + 1), 0, none⟩ (.int .i64 T)) ⟨(q + 1), 1, none⟩ (.int .i64 C)) ⟨(q + 1), 2, none⟩ (.int .i64 B)) = v92 at *
          refine hK.out _ _ ?_ (fun hHeld => ?_)
          · exact ⟨(L5.out.cell 0), (L5.out.cell 1), (L5.out.cell 2), (P6.out.cell 0), (P6.out.cell 1), (P6.out.cell 2), (P6.out.cell 3), (P6.out.cell 4), (P6.out.cell 5), (P6.out.cell 6), (P6.out.cell 7)⟩
          clear hK K
          (try simp only [Act.put])
          (try simp only [List.setIfInBounds_toArray])
          (try simp only [List.set_cons_succ])
          (try simp only [List.set_cons_zero])
          refine wpAnyH_ready (rs := [9]) (by kernel_rfl) (by simp) ?_
          refine AllReadyH.cons (o := { dst := none, op := Op.store 32 (Operand.tmp 3) (Operand.tmp 58), type := 0, pos := "law.go:26", after := #[{ on := 1, ground := Ground.data }, { on := 8, ground := Ground.chain }, { on := 0, ground := Ground.phase }, { on := 1, ground := Ground.phase }, { on := 2, ground := Ground.textOnly Departure.lateStores }, { on := 3, ground := Ground.textOnly Departure.lateStores }, { on := 4, ground := Ground.textOnly Departure.lateStores }, { on := 5, ground := Ground.textOnly Departure.lateStoresUnsure }, { on := 6, ground := Ground.textOnly Departure.lateStoresUnsure }, { on := 7, ground := Ground.textOnly Departure.lateStores }, { on := 8, ground := Ground.phase }], guard := none }) rfl (fun K hK => ?_) AllReadyH.nil
          obtain ⟨⟨m0, m1, m2, m3, m4, m5, m6, m7⟩, g0, g1, g2, g3, g4, g5, g6, g7⟩ := R3.out.cells8
          go_simp
          clear m0 g0 m1 g1 m2 g2 m3 g3 m4 g4 m5 g5 m6 g6 m7 g7
          replace R2 := Lib.hid (R2.out.only (by omega) (((((((((Only.refl (q + 1 + 1) v92).set 0 (.int .i64 T)).set 1 (.int .i64 B)).set 2 (.int .i64 s4)).set 3 (.int .i64 rm)).set 4 (.int .i64 104)).set 5 (.int .i64 32)).set 6 (.slice ra i rc)).set 7 (.int .i64 i)))
          replace L5 := Lib.hid (L5.out.only (by omega) (((((((((Only.refl (q + 1 + 1) v92).set 0 (.int .i64 T)).set 1 (.int .i64 B)).set 2 (.int .i64 s4)).set 3 (.int .i64 rm)).set 4 (.int .i64 104)).set 5 (.int .i64 32)).set 6 (.slice ra i rc)).set 7 (.int .i64 i)))
          replace HG := Lib.hid (gl_only HG.out (by omega) (((((((((Only.refl (q + 1 + 1) v92).set 0 (.int .i64 T)).set 1 (.int .i64 B)).set 2 (.int .i64 s4)).set 3 (.int .i64 rm)).set 4 (.int .i64 104)).set 5 (.int .i64 32)).set 6 (.slice ra i rc)).set 7 (.int .i64 i)))
          replace P6 := Lib.hid (P6.out.only (by omega) (((((((((Only.refl (q + 1 + 1) v92).set 0 (.int .i64 T)).set 1 (.int .i64 B)).set 2 (.int .i64 s4)).set 3 (.int .i64 rm)).set 4 (.int .i64 104)).set 5 (.int .i64 32)).set 6 (.slice ra i rc)).set 7 (.int .i64 i)))
          replace R := Lib.hid (((((((((R.out.otherSet (box_not_rowK R.out R3.out (by decide)) 0 (.int .i64 T)).otherSet (box_not_rowK R.out R3.out (by decide)) 1 (.int .i64 B)).otherSet (box_not_rowK R.out R3.out (by decide)) 2 (.int .i64 s4)).otherSet (box_not_rowK R.out R3.out (by decide)) 3 (.int .i64 rm)).otherSet (box_not_rowK R.out R3.out (by decide)) 4 (.int .i64 104)).otherSet (box_not_rowK R.out R3.out (by decide)) 5 (.int .i64 32)).otherSet (box_not_rowK R.out R3.out (by decide)) 6 (.slice ra i rc)).otherSet (box_not_rowK R.out R3.out (by decide)) 7 (.int .i64 i)))
          replace BB := Lib.hid (((((((((BB.out).put (q + 1 + 1) (by omega) 0 (.int .i64 T)).put (q + 1 + 1) (by omega) 1 (.int .i64 B)).put (q + 1 + 1) (by omega) 2 (.int .i64 s4)).put (q + 1 + 1) (by omega) 3 (.int .i64 rm)).put (q + 1 + 1) (by omega) 4 (.int .i64 104)).put (q + 1 + 1) (by omega) 5 (.int .i64 32)).put (q + 1 + 1) (by omega) 6 (.slice ra i rc)).put (q + 1 + 1) (by omega) 7 (.int .i64 i))
          replace R3 := Lib.hid (((((((((R3.out).set 0 (.int .i64 T)).set 1 (.int .i64 B)).set 2 (.int .i64 s4)).set 3 (.int .i64 rm)).set 4 (.int .i64 104)).set 5 (.int .i64 32)).set 6 (.slice ra i rc)).set 7 (.int .i64 i))
          generalize (World.setCell (World.setCell (World.setCell (World.setCell (World.setCell (World.setCell (World.setCell (World.setCell v92 ⟨(q + 1 + 1), 0, none⟩ (.int .i64 T)) ⟨(q + 1 + 1), 1, none⟩ (.int .i64 B)) ⟨(q + 1 + 1), 2, none⟩ (.int .i64 s4)) ⟨(q + 1 + 1), 3, none⟩ (.int .i64 rm)) ⟨(q + 1 + 1), 4, none⟩ (.int .i64 104)) ⟨(q + 1 + 1), 5, none⟩ (.int .i64 32)) ⟨(q + 1 + 1), 6, none⟩ (.slice ra i rc)) ⟨(q + 1 + 1), 7, none⟩ (.int .i64 i)) = v93 at *
          refine hK.out _ _ ?_ (fun hHeld => ?_)
          · exact ⟨(L5.out.cell 0), (L5.out.cell 1), (L5.out.cell 2), (P6.out.cell 0), (P6.out.cell 1), (P6.out.cell 2), (P6.out.cell 3), (P6.out.cell 4), (P6.out.cell 5), (P6.out.cell 6), (P6.out.cell 7)⟩
          clear hK K
          (try simp only [Act.put])
          (try simp only [List.setIfInBounds_toArray])
          (try simp only [List.set_cons_succ])
          (try simp only [List.set_cons_zero])
          refine wpAnyH_ready (rs := [10]) (by kernel_rfl) (by simp) ?_
          refine AllReadyH.cons (o := { dst := some 4, op := Op.assign (Operand.tmp 64), type := 4, pos := "law.go:26", after := #[{ on := 7, ground := Ground.data }, { on := 9, ground := Ground.chain }, { on := 0, ground := Ground.phase }, { on := 1, ground := Ground.phase }, { on := 2, ground := Ground.phase }, { on := 3, ground := Ground.phase }, { on := 4, ground := Ground.phase }, { on := 5, ground := Ground.phase }, { on := 6, ground := Ground.phase }, { on := 7, ground := Ground.phase }, { on := 8, ground := Ground.phase }, { on := 9, ground := Ground.phase }], guard := none }) rfl (fun K hK => ?_) AllReadyH.nil
          go_simp
          refine hK.out _ _ ?_ (fun hHeld => ?_)
          · exact ⟨(L5.out.cell 0), (L5.out.cell 1), (L5.out.cell 2), (P6.out.cell 0), (P6.out.cell 1), (P6.out.cell 2), (P6.out.cell 3), (P6.out.cell 4), (P6.out.cell 5), (P6.out.cell 6), (P6.out.cell 7)⟩
          clear hK K
          (try simp only [Act.put])
          (try simp only [List.setIfInBounds_toArray])
          (try simp only [List.set_cons_succ])
          (try simp only [List.set_cons_zero])
          refine wpAnyH_done (by kernel_rfl) ?_ _
          go_wp2_with fail
          have k0 := R2.out.cell 0
          have k1 := R2.out.cell 1
          have k2 := R2.out.cell 2
          simp at k0 k1 k2
          have m0 := R3.out.cell 0
          have m1 := R3.out.cell 1
          have m2 := R3.out.cell 2
          have m3 := R3.out.cell 3
          have m4 := R3.out.cell 4
          have m5 := R3.out.cell 5
          have m6 := R3.out.cell 6
          have m7 := R3.out.cell 7
          simp at m0 m1 m2 m3 m4 m5 m6 m7
          exact bodyPost_ret (v := .tuple #[.agg #[.int .i64 T, .int .i64 C, .int .i64 B], .agg #[.int .i64 T, .int .i64 B, .int .i64 s4, .int .i64 rm, .int .i64 104, .int .i64 32, .slice ra i rc, .int .i64 i], .bool true]) (by simp [results, Tryd.f12, go_sem, k0, k1, k2, m0, m1, m2, m3, m4, m5, m6, m7]) rfl (PO.out _ _ R.out.sk BB.out)
end Go.Proofs.YtfegeahieajmkaaDoor
