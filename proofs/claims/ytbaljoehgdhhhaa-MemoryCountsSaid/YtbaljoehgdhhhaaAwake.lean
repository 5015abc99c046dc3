/- awake of the statements on memories. -/
import Derived.Test.YtbaljoehgdhhhaaAsk
import Derived.Test.YtbaljoehgdhhhaaLook
import Derived.Test.YtbaljoehgdhhhaaStore
import Derived.Deep.RegionHeld3
import Derived.Deep.DeepCutAuto
namespace Go.Proofs.Ytbaljoehgdhhhaa
open Go.RowKit Go.Shelf Go.Maps

theorem MD.addne {D : Nat → Prop} {w : World} {pv vv : Value} {M : Mem} (h : MD D w pv vv M) : MD (fun b => D b ∧ b ≠ w.heap.size) w pv vv M := by
  obtain ⟨P, V, h1, h2, h3, h4, h5, h6, h7, h8, h9⟩ := h
  refine ⟨P, V, h1, h2, h3, h4, h5, h6, fun a n c e => ⟨h7 a n c e, ?_⟩, fun a n c e => ⟨h8 a n c e, ?_⟩, fun x hx a n c e => ⟨h9 x hx a n c e, Nat.ne_of_lt (hw_lt (h2 x hx) a n c e)⟩⟩
  · rcases h1 with ⟨e1, _⟩ | ⟨b, t, e1, hk⟩
    · rw [e] at e1; cases e1
    · rw [e] at e1
      simp only [Value.slice.injEq, Option.some.injEq] at e1
      rw [e1.1]; exact Nat.ne_of_lt (lt_block hk)
  · rcases h4 with ⟨e1, _⟩ | ⟨b, t, e1, hk⟩
    · rw [e] at e1; cases e1
    · rw [e] at e1
      simp only [Value.slice.injEq, Option.some.injEq] at e1
      rw [e1.1]; exact Nat.ne_of_lt (lt_block hk)
theorem MD.sl {D : Nat → Prop} {w : World} {pv vv : Value} {M : Mem} {np nv : Nat} (h : MD D w pv vv M) (e1 : M.hs.length = np) (e2 : M.vs.length = nv) : ∃ a1 a2, pv = .slice a1 np np ∧ vv = .slice a2 nv nv := by
  obtain ⟨a1, a2, h1, h2⟩ := h.mw.slices
  exact ⟨a1, a2, by rw [h1, e1], by rw [h2, e2]⟩

/-- The boxes that the end of awake reads. -/
structure KP (B b1 b6 b9 b12 b15 b18 : Nat) (p2 q2 : Option Addr) (W : World) : Prop where
  x1 : Box W b1 #[.slice p2 2 2, .slice q2 2 2] 31
  x6 : Box W b6 #[.int .i64 0, .int .u32 0, .int .u32 0] 45
  x9 : Box W b9 #[.int .i64 7, .int .u32 0, .int .u32 0] 45
  x12 : Box W b12 #[.int .i64 1, .int .u32 0, .int .u32 0] 45
  x15 : Box W b15 #[.int .i64 7, .int .u32 0, .int .u32 0] 45
  x18 : Box W b18 #[.int .i64 7, .int .u32 0, .int .u32 0] 45
  lt : b1 < B ∧ b6 < B ∧ b9 < B ∧ b12 < B ∧ b15 < B ∧ b18 < B
  le : B ≤ W.heap.size
theorem KP.below {B b1 b6 b9 b12 b15 b18 : Nat} {p2 q2 : Option Addr} {W W1 : World} (h : KP B b1 b6 b9 b12 b15 b18 p2 q2 W) (hb : Below W.heap.size W W1) : KP B b1 b6 b9 b12 b15 b18 p2 q2 W1 :=
  ⟨h.x1.below hb, h.x6.below hb, h.x9.below hb, h.x12.below hb, h.x15.below hb, h.x18.below hb, h.lt, Nat.le_trans h.le hb.size⟩
theorem KP.only {B b1 b6 b9 b12 b15 b18 b : Nat} {p2 q2 : Option Addr} {W W1 : World} (h : KP B b1 b6 b9 b12 b15 b18 p2 q2 W) (hb : B ≤ b) (ho : Only b W W1) : KP B b1 b6 b9 b12 b15 b18 p2 q2 W1 := by
  obtain ⟨l1, l2, l3, l4, l5, l6⟩ := h.lt
  exact ⟨h.x1.only (by omega) ho, h.x6.only (by omega) ho, h.x9.only (by omega) ho, h.x12.only (by omega) ho, h.x15.only (by omega) ho, h.x18.only (by omega) ho, h.lt, by rw [ho.size]; exact h.le⟩

def A0 : Mem := newMem 2 [(0, 0, 0), (0, 0, 0)]
def A1 : Mem := A0.writeAt 0 0 7 0 0 false
def A2 : Mem := A1.writeAt 0 1 1 0 0 true
def A3 : Mem := A2.readAt 1 1 1 true
theorem good0 : A0.Good 1 := newMem_good _ _ (by simp) (by omega)
theorem good1 : A1.Good 2 := good0.writeAt 0 0 7 0 0 false (by simp [A0, newMem])
theorem good2 : A2.Good 3 := good1.writeAt 0 1 1 0 0 true (by simp [A1, Mem.writeAt, A0, newMem])
theorem good3 : A3.Good 3 := good2.readAt 1 1 1 true
theorem i1 : (chooseL (A2.hist 0).length (atL (A2.view 1) ((0 : Nat) : Int)) 1).toNat = 0 := by kernel_rfl
theorem i2 : (chooseL (A2.hist 0).length (atL (A2.view 1) ((0 : Nat) : Int)) 0).toNat = 1 := by kernel_rfl
theorem i3 : (chooseL (A2.hist 1).length (atL (A2.view 1) ((1 : Nat) : Int)) 0).toNat = 1 := by kernel_rfl
theorem i4 : (chooseL (A3.hist 0).length (atL (A3.view 1) ((0 : Nat) : Int)) 1).toNat = 1 := by kernel_rfl
theorem i5 : (chooseL (A3.hist 0).length (atL (A3.view 1) ((0 : Nat) : Int)) 5).toNat = 1 := by kernel_rfl
theorem w1 : wordV (A2.msg 0 0) = .agg #[.int .i64 0, .int .u32 0, .int .u32 0] := by kernel_rfl
theorem w2 : wordV (A2.msg 0 1) = .agg #[.int .i64 7, .int .u32 0, .int .u32 0] := by kernel_rfl
theorem w3 : wordV (A2.msg 1 1) = .agg #[.int .i64 1, .int .u32 0, .int .u32 0] := by kernel_rfl
theorem w4 : wordV (A3.msg 0 1) = .agg #[.int .i64 7, .int .u32 0, .int .u32 0] := by kernel_rfl
theorem l2 : (A2.hist 1).length - 1 = 1 := by kernel_rfl
theorem n0 : A0.hs.length = 2 ∧ A0.vs.length = 2 := ⟨by kernel_rfl, by kernel_rfl⟩
theorem n1 : A1.hs.length = 2 ∧ A1.vs.length = 2 := ⟨by kernel_rfl, by kernel_rfl⟩
theorem n2 : A2.hs.length = 2 ∧ A2.vs.length = 2 := ⟨by kernel_rfl, by kernel_rfl⟩
theorem n3 : A3.hs.length = 2 ∧ A3.vs.length = 2 := ⟨by kernel_rfl, by kernel_rfl⟩
theorem sl9 {D : Nat → Prop} {w : World} {pv vv : Value} {k p i : Nat} {j : Bool} (h : MD D w pv vv (A2.readAt k p i j)) : ∃ a1 a2, pv = .slice a1 2 2 ∧ vv = .slice a2 2 2 := h.sl n2.1 (by simp [Mem.readAt, n2.2])
theorem v21 : (A2.msg 1 1).val = 1 := by kernel_rfl
theorem sw9 : ¬ ((A2.msg 1 ((A2.hist 1).length - 1)).val = 0 ∧ (A2.msg 1 ((A2.hist 1).length - 1)).ver = 0 ∧ (A2.msg 1 ((A2.hist 1).length - 1)).ref = 0) := by
  rw [l2]; intro h; have h1 := h.1; rw [v21] at h1; omega

set_option maxRecDepth 100000 in
set_option maxHeartbeats 12800000 in
theorem awake_any (w : World) : Calls Try.prog 9 #[] w fun e w' => e = .returned (.bool true) ∧ Below w.heap.size w w' := by
  have BB := Lib.hid (Below.refl w.heap.size w)
  go_enter Try.func9, Try.ntmps9
  go_wp2_with fail
  refine (word_any 0 _).mono ?_
  rintro e a0 ⟨rfl, hb⟩
  have BB' := Lib.hid (BB.out.trans ((hb).mono BB.out.size))
  clear BB
  have BB := BB'
  clear BB'
  clear hb
  go_wp2_with fail
  refine (word_any 0 _).mono ?_
  rintro e a1 ⟨rfl, hb⟩
  have BB' := Lib.hid (BB.out.trans ((hb).mono BB.out.size))
  clear BB
  have BB := BB'
  clear BB'
  clear hb
  go_wp2_with fail
  refine (new_ok 2 a1.heap.size 0 2 [(0, 0, 0), (0, 0, 0)] _ (by simp) (by simp) (by omega) (by omega) (by simp) (fun i hi => ?_)).mono ?_
  · have hi' : i = 0 ∨ i = 1 := by simp at hi; omega
    rcases hi' with rfl | rfl <;> simp [go_sem]
  rintro e a2 ⟨pv, vv, rfl, hm, hb⟩
  have BB' := Lib.hid ((BB.out.alloc BB.out.size (.cells #[.int .i64 0, .int .u32 0, .int .u32 0, .int .i64 0, .int .u32 0, .int .u32 0] 45)).trans (hb.mono (BB.out.alloc BB.out.size (.cells #[.int .i64 0, .int .u32 0, .int .u32 0, .int .i64 0, .int .u32 0, .int .u32 0] 45)).size))
  clear BB hb
  have BB := BB'
  clear BB'
  obtain ⟨p0, q0, rfl, rfl⟩ := hm.sl n0.1 n0.2
  have MM : Hid (MD _ a2 _ _ A0) := Lib.hid hm
  clear hm
  go_upto_region 2 with fail
  have hlt_b1 := BB.out.size
  have MM' := Lib.hid MM.out.addne
  clear MM
  have MM := MM'
  clear MM'
  have MM' := Lib.hid (MM.out.below (below_new a2 (.cells #[.slice p0 2 2, .slice q0 2 2] 31)))
  have BB' := Lib.hid (BB.out.trans ((below_new a2 (.cells #[.slice p0 2 2, .slice q0 2 2] 31)).mono BB.out.size))
  clear MM
  have MM := MM'
  clear MM'
  clear BB
  have BB := BB'
  clear BB'
  have B1 := Lib.hid (Box.new a2 #[.slice p0 2 2, .slice q0 2 2] 31 rfl)
  have hsz_b1 : (World.alloc a2 (.cells #[.slice p0 2 2, .slice q0 2 2] 31)).heap.size = (World.heap a2).size + 1 := by simp
  generalize World.alloc a2 (.cells #[.slice p0 2 2, .slice q0 2 2] 31) = a3 at *
  generalize World.heap a2 = hp_b1 at *
  generalize hp_b1.size = b1 at *
  have MM' := Lib.hid (MM.out.imp (D' := fun b => b ≠ b1) (fun b hb => hb.2))
  clear MM
  have MM := MM'
  clear MM'
  go_cut [3] (fun s wx => ∃ p1 q1, s = .int .i64 0 ∧ Box wx b1 #[.slice p1 2 2, .slice q1 2 2] 31 ∧ MD (fun b => b ≠ b1) wx (.slice p1 2 2) (.slice q1 2 2) A1 ∧ Below w.heap.size w wx)
  case first =>
    have MM' := Lib.hid (MM.out.below ((Below.refl _ _).drew))
    have B1' := Lib.hid (B1.out.below ((Below.refl _ _).drew))
    have BB' := Lib.hid (BB.out.trans (((Below.refl _ _).drew).mono BB.out.size))
    clear MM
    have MM := MM'
    clear MM'
    clear B1
    have B1 := B1'
    clear B1'
    clear BB
    have BB := BB'
    clear BB'
    refine wp_region_held_drew (S := fun w' => True) (by kernel_rfl) True.intro (fun hHeld => ?_)
    generalize World.drew a3 = V0 at *
    refine wpAnyH_ready (rs := [0, 1]) (by kernel_rfl) (by simp) ?_
    refine AllReadyH.cons (o := { dst := some 34, op := Op.load 31 (Operand.tmp 1), type := 31, pos := "law.go:30", after := #[], guard := none }) rfl (fun K hK => ?_) ?_
    · skip
      obtain ⟨⟨c0, c1⟩, -⟩ := B1.out.cells2
      go_simp
      clear c0 c1
      refine hK.out _ _ ?_ (fun hHeld => ?_)
      · exact True.intro
      clear hK K
      (try simp only [Act.put])
      (try simp only [List.setIfInBounds_toArray])
      (try simp only [List.set_cons_succ])
      (try simp only [List.set_cons_zero])
      refine wpAnyH_ready (rs := [1]) (by kernel_rfl) (by simp) ?_
      refine AllReadyH.cons (o := { dst := some 35, op := Op.call { callee := Callee.value (Operand.func 29), args := #[Operand.const (Value.int IntKind.i64 7)], argTypes := #[2] }, type := 45, pos := "law.go:30", after := #[], guard := none }) rfl (fun K hK => ?_) AllReadyH.nil
      go_simp
      go_at_call 29
      refine (word_any 7 _).mono ?_
      rintro e v1 ⟨rfl, hb⟩
      have MM' := Lib.hid (MM.out.below (hb))
      have B1' := Lib.hid (B1.out.below (hb))
      have BB' := Lib.hid (BB.out.trans ((hb).mono BB.out.size))
      clear MM
      have MM := MM'
      clear MM'
      clear B1
      have B1 := B1'
      clear B1'
      clear BB
      have BB := BB'
      clear BB'
      clear hb
      go_simp
      refine hK.out _ _ ?_ (fun hHeld => ?_)
      · exact True.intro
      clear hK K
      (try simp only [Act.put])
      (try simp only [List.setIfInBounds_toArray])
      (try simp only [List.set_cons_succ])
      (try simp only [List.set_cons_zero])
      refine wpAnyH_ready (rs := [2]) (by kernel_rfl) (by simp) ?_
      refine AllReadyH.cons (o := { dst := some 36, op := Op.call { callee := Callee.value (Operand.func 24), args := #[Operand.tmp 34, Operand.const (Value.int IntKind.i64 1), Operand.const (Value.int IntKind.i64 0), Operand.tmp 35, Operand.const (Value.bool false)], argTypes := #[31, 3, 42, 45, 4] }, type := 33, pos := "law.go:30", after := #[{ on := 0, ground := Ground.data }, { on := 1, ground := Ground.data }, { on := 1, ground := Ground.chain }], guard := none }) rfl (fun K hK => ?_) AllReadyH.nil
      go_simp
      go_at_call 24
      have hl1 := B1.out.lt
      refine (store_plain _ _ A0 1 0 0 7 0 0 _ _ MM.out good0 (by omega) (by rw [n0.2]; omega) (by rw [n0.1]; omega)).mono ?_
      rintro e v2 ⟨pv, vv, rfl, hm, hb⟩
      have MM' := Lib.hid (MM.out.below (hb))
      have B1' := Lib.hid (B1.out.below (hb))
      have BB' := Lib.hid (BB.out.trans ((hb).mono BB.out.size))
      clear MM
      have MM := MM'
      clear MM'
      clear B1
      have B1 := B1'
      clear B1'
      clear BB
      have BB := BB'
      clear BB'
      clear hb
      have MN := Lib.hid (hm)
      clear MM
      clear hm
      obtain ⟨p1, q1, e1, e2⟩ := MN.out.sl n1.1 n1.2
      subst e1 e2
      have MN' := Lib.hid (MN.out.imp (D' := fun b => b ≠ b1) (fun b hb => by
        rcases hb with hb | hb
        · exact hb
        · omega))
      clear MN
      have MN := MN'
      clear MN'
      go_simp
      refine hK.out _ _ ?_ (fun hHeld => ?_)
      · exact True.intro
      clear hK K
      (try simp only [Act.put])
      (try simp only [List.setIfInBounds_toArray])
      (try simp only [List.set_cons_succ])
      (try simp only [List.set_cons_zero])
      refine wpAnyH_take (i := 3) (oi := { dst := some 33, op := Op.move (Operand.tmp 36), type := 33, pos := "law.go:30", after := #[{ on := 2, ground := Ground.data }], guard := none }) (v := ?d3_1xv3) rfl (by kernel_rfl) (by kernel_rfl) (by kernel_rfl) (fun _ _ _ h => h) (Or.inl ⟨by rfl, ?d3_1xy3⟩) (by assumption) ?d3_1xr3
      case d3_1xy3 => (intro w hSw; (try dsimp only at hSw); go_simp; try with_reducible rfl)
      (try simp only [Act.put])
      (try simp only [List.setIfInBounds_toArray])
      (try simp only [List.set_cons_succ])
      (try simp only [List.set_cons_zero])
      refine wpAnyH_take (i := 4) (oi := { dst := some 37, op := Op.extract (Operand.tmp 33) 0, type := 31, pos := "law.go:30", after := #[{ on := 3, ground := Ground.data }], guard := none }) (v := ?d3_2xv4) rfl (by kernel_rfl) (by kernel_rfl) (by kernel_rfl) (fun _ _ _ h => h) (Or.inl ⟨by rfl, ?d3_2xy4⟩) (by assumption) ?d3_2xr4
      case d3_2xy4 => (intro w hSw; (try dsimp only at hSw); go_simp; try with_reducible rfl)
      (try simp only [Act.put])
      (try simp only [List.setIfInBounds_toArray])
      (try simp only [List.set_cons_succ])
      (try simp only [List.set_cons_zero])
      refine wpAnyH_take (i := 5) (oi := { dst := some 38, op := Op.extract (Operand.tmp 33) 1, type := 32, pos := "law.go:30", after := #[{ on := 3, ground := Ground.data }, { on := 6, ground := Ground.gcOnly Departure.lateStores }], guard := none }) (v := ?d3_3xv5) rfl (by kernel_rfl) (by kernel_rfl) (by kernel_rfl) (fun _ _ _ h => h) (Or.inl ⟨by rfl, ?d3_3xy5⟩) (by assumption) ?d3_3xr5
      case d3_3xy5 => (intro w hSw; (try dsimp only at hSw); go_simp; try with_reducible rfl)
      (try simp only [Act.put])
      (try simp only [List.setIfInBounds_toArray])
      (try simp only [List.set_cons_succ])
      (try simp only [List.set_cons_zero])
      refine wpAnyH_ready (rs := [6]) (by kernel_rfl) (by simp) ?_
      refine AllReadyH.cons (o := { dst := none, op := Op.store 31 (Operand.tmp 1) (Operand.tmp 37), type := 0, pos := "law.go:30", after := #[{ on := 4, ground := Ground.data }, { on := 2, ground := Ground.chain }, { on := 0, ground := Ground.phase }, { on := 1, ground := Ground.phase }, { on := 2, ground := Ground.phase }, { on := 3, ground := Ground.phase }, { on := 4, ground := Ground.phase }, { on := 5, ground := Ground.textOnly Departure.lateStores }], guard := none }) rfl (fun K hK => ?_) AllReadyH.nil
      obtain ⟨⟨m0, m1⟩, g0, g1⟩ := B1.out.cells2
      go_simp
      clear m0 g0 m1 g1
      have B1' := Lib.hid (((B1.out).set 0 (.slice p1 2 2)).set 1 (.slice q1 2 2))
      have MN' := Lib.hid (MN.out.only B1.out (by simp) (((Only.refl b1 v2).set 0 (.slice p1 2 2)).set 1 (.slice q1 2 2)))
      have BB' := Lib.hid (((BB.out).put b1 (by omega) 0 (.slice p1 2 2)).put b1 (by omega) 1 (.slice q1 2 2))
      clear B1
      have B1 := B1'
      clear B1'
      clear MN
      have MN := MN'
      clear MN'
      clear BB
      have BB := BB'
      clear BB'
      generalize (World.setCell (World.setCell v2 ⟨b1, 0, none⟩ (.slice p1 2 2)) ⟨b1, 1, none⟩ (.slice q1 2 2)) = v3 at *
      refine hK.out _ _ ?_ (fun hHeld => ?_)
      · exact True.intro
      clear hK K
      (try simp only [Act.put])
      (try simp only [List.setIfInBounds_toArray])
      (try simp only [List.set_cons_succ])
      (try simp only [List.set_cons_zero])
      refine wpAnyH_ready (rs := [7]) (by kernel_rfl) (by simp) ?_
      refine AllReadyH.cons (o := { dst := some 3, op := Op.assign (Operand.tmp 38), type := 32, pos := "law.go:30", after := #[{ on := 5, ground := Ground.data }, { on := 6, ground := Ground.chain }, { on := 0, ground := Ground.phase }, { on := 1, ground := Ground.phase }, { on := 2, ground := Ground.phase }, { on := 3, ground := Ground.phase }, { on := 4, ground := Ground.phase }, { on := 5, ground := Ground.phase }, { on := 6, ground := Ground.phase }], guard := none }) rfl (fun K hK => ?_) AllReadyH.nil
      go_simp
      refine hK.out _ _ ?_ (fun hHeld => ?_)
      · exact True.intro
      clear hK K
      (try simp only [Act.put])
      (try simp only [List.setIfInBounds_toArray])
      (try simp only [List.set_cons_succ])
      (try simp only [List.set_cons_zero])
      refine wpAnyH_done (by kernel_rfl) ?_ _
      go_wp2
      go_meet
      case rel => exact ⟨p1, q1, rfl, B1.out, MN.out, BB.out⟩
    refine AllReadyH.cons (o := { dst := some 35, op := Op.call { callee := Callee.value (Operand.func 29), args := #[Operand.const (Value.int IntKind.i64 7)], argTypes := #[2] }, type := 45, pos := "law.go:30", after := #[], guard := none }) rfl (fun K hK => ?_) AllReadyH.nil
    go_simp
    go_at_call 29
    refine (word_any 7 _).mono ?_
    rintro e v4 ⟨rfl, hb⟩
    have MM' := Lib.hid (MM.out.below (hb))
    have B1' := Lib.hid (B1.out.below (hb))
    have BB' := Lib.hid (BB.out.trans ((hb).mono BB.out.size))
    clear MM
    have MM := MM'
    clear MM'
    clear B1
    have B1 := B1'
    clear B1'
    clear BB
    have BB := BB'
    clear BB'
    clear hb
    go_simp
    refine hK.out _ _ ?_ (fun hHeld => ?_)
    · exact True.intro
    clear hK K
    (try simp only [Act.put])
    (try simp only [List.setIfInBounds_toArray])
    (try simp only [List.set_cons_succ])
    (try simp only [List.set_cons_zero])
    refine wpAnyH_ready (rs := [0]) (by kernel_rfl) (by simp) ?_
    refine AllReadyH.cons (o := { dst := some 34, op := Op.load 31 (Operand.tmp 1), type := 31, pos := "law.go:30", after := #[], guard := none }) rfl (fun K hK => ?_) AllReadyH.nil
    obtain ⟨⟨c0, c1⟩, -⟩ := B1.out.cells2
    go_simp
    clear c0 c1
    refine hK.out _ _ ?_ (fun hHeld => ?_)
    · exact True.intro
    clear hK K
    (try simp only [Act.put])
    (try simp only [List.setIfInBounds_toArray])
    (try simp only [List.set_cons_succ])
    (try simp only [List.set_cons_zero])
    refine wpAnyH_ready (rs := [2]) (by kernel_rfl) (by simp) ?_
    refine AllReadyH.cons (o := { dst := some 36, op := Op.call { callee := Callee.value (Operand.func 24), args := #[Operand.tmp 34, Operand.const (Value.int IntKind.i64 1), Operand.const (Value.int IntKind.i64 0), Operand.tmp 35, Operand.const (Value.bool false)], argTypes := #[31, 3, 42, 45, 4] }, type := 33, pos := "law.go:30", after := #[{ on := 0, ground := Ground.data }, { on := 1, ground := Ground.data }, { on := 1, ground := Ground.chain }], guard := none }) rfl (fun K hK => ?_) AllReadyH.nil
    go_simp
    go_at_call 24
    have hl1 := B1.out.lt
    refine (store_plain _ _ A0 1 0 0 7 0 0 _ _ MM.out good0 (by omega) (by rw [n0.2]; omega) (by rw [n0.1]; omega)).mono ?_
    rintro e v5 ⟨pv, vv, rfl, hm, hb⟩
    have MM' := Lib.hid (MM.out.below (hb))
    have B1' := Lib.hid (B1.out.below (hb))
    have BB' := Lib.hid (BB.out.trans ((hb).mono BB.out.size))
    clear MM
    have MM := MM'
    clear MM'
    clear B1
    have B1 := B1'
    clear B1'
    clear BB
    have BB := BB'
    clear BB'
    clear hb
    have MN := Lib.hid (hm)
    clear MM
    clear hm
    obtain ⟨p1, q1, e1, e2⟩ := MN.out.sl n1.1 n1.2
    subst e1 e2
    have MN' := Lib.hid (MN.out.imp (D' := fun b => b ≠ b1) (fun b hb => by
      rcases hb with hb | hb
      · exact hb
      · omega))
    clear MN
    have MN := MN'
    clear MN'
    go_simp
    refine hK.out _ _ ?_ (fun hHeld => ?_)
    · exact True.intro
    clear hK K
    (try simp only [Act.put])
    (try simp only [List.setIfInBounds_toArray])
    (try simp only [List.set_cons_succ])
    (try simp only [List.set_cons_zero])
    refine wpAnyH_take (i := 3) (oi := { dst := some 33, op := Op.move (Operand.tmp 36), type := 33, pos := "law.go:30", after := #[{ on := 2, ground := Ground.data }], guard := none }) (v := ?d6_4xv3) rfl (by kernel_rfl) (by kernel_rfl) (by kernel_rfl) (fun _ _ _ h => h) (Or.inl ⟨by rfl, ?d6_4xy3⟩) (by assumption) ?d6_4xr3
    case d6_4xy3 => (intro w hSw; (try dsimp only at hSw); go_simp; try with_reducible rfl)
    (try simp only [Act.put])
    (try simp only [List.setIfInBounds_toArray])
    (try simp only [List.set_cons_succ])
    (try simp only [List.set_cons_zero])
    refine wpAnyH_take (i := 4) (oi := { dst := some 37, op := Op.extract (Operand.tmp 33) 0, type := 31, pos := "law.go:30", after := #[{ on := 3, ground := Ground.data }], guard := none }) (v := ?d6_5xv4) rfl (by kernel_rfl) (by kernel_rfl) (by kernel_rfl) (fun _ _ _ h => h) (Or.inl ⟨by rfl, ?d6_5xy4⟩) (by assumption) ?d6_5xr4
    case d6_5xy4 => (intro w hSw; (try dsimp only at hSw); go_simp; try with_reducible rfl)
    (try simp only [Act.put])
    (try simp only [List.setIfInBounds_toArray])
    (try simp only [List.set_cons_succ])
    (try simp only [List.set_cons_zero])
    refine wpAnyH_take (i := 5) (oi := { dst := some 38, op := Op.extract (Operand.tmp 33) 1, type := 32, pos := "law.go:30", after := #[{ on := 3, ground := Ground.data }, { on := 6, ground := Ground.gcOnly Departure.lateStores }], guard := none }) (v := ?d6_6xv5) rfl (by kernel_rfl) (by kernel_rfl) (by kernel_rfl) (fun _ _ _ h => h) (Or.inl ⟨by rfl, ?d6_6xy5⟩) (by assumption) ?d6_6xr5
    case d6_6xy5 => (intro w hSw; (try dsimp only at hSw); go_simp; try with_reducible rfl)
    (try simp only [Act.put])
    (try simp only [List.setIfInBounds_toArray])
    (try simp only [List.set_cons_succ])
    (try simp only [List.set_cons_zero])
    refine wpAnyH_ready (rs := [6]) (by kernel_rfl) (by simp) ?_
    refine AllReadyH.cons (o := { dst := none, op := Op.store 31 (Operand.tmp 1) (Operand.tmp 37), type := 0, pos := "law.go:30", after := #[{ on := 4, ground := Ground.data }, { on := 2, ground := Ground.chain }, { on := 0, ground := Ground.phase }, { on := 1, ground := Ground.phase }, { on := 2, ground := Ground.phase }, { on := 3, ground := Ground.phase }, { on := 4, ground := Ground.phase }, { on := 5, ground := Ground.textOnly Departure.lateStores }], guard := none }) rfl (fun K hK => ?_) AllReadyH.nil
    obtain ⟨⟨m0, m1⟩, g0, g1⟩ := B1.out.cells2
    go_simp
    clear m0 g0 m1 g1
    have B1' := Lib.hid (((B1.out).set 0 (.slice p1 2 2)).set 1 (.slice q1 2 2))
    have MN' := Lib.hid (MN.out.only B1.out (by simp) (((Only.refl b1 v5).set 0 (.slice p1 2 2)).set 1 (.slice q1 2 2)))
    have BB' := Lib.hid (((BB.out).put b1 (by omega) 0 (.slice p1 2 2)).put b1 (by omega) 1 (.slice q1 2 2))
    clear B1
    have B1 := B1'
    clear B1'
    clear MN
    have MN := MN'
    clear MN'
    clear BB
    have BB := BB'
    clear BB'
    generalize (World.setCell (World.setCell v5 ⟨b1, 0, none⟩ (.slice p1 2 2)) ⟨b1, 1, none⟩ (.slice q1 2 2)) = v6 at *
    refine hK.out _ _ ?_ (fun hHeld => ?_)
    · exact True.intro
    clear hK K
    (try simp only [Act.put])
    (try simp only [List.setIfInBounds_toArray])
    (try simp only [List.set_cons_succ])
    (try simp only [List.set_cons_zero])
    refine wpAnyH_ready (rs := [7]) (by kernel_rfl) (by simp) ?_
    refine AllReadyH.cons (o := { dst := some 3, op := Op.assign (Operand.tmp 38), type := 32, pos := "law.go:30", after := #[{ on := 5, ground := Ground.data }, { on := 6, ground := Ground.chain }, { on := 0, ground := Ground.phase }, { on := 1, ground := Ground.phase }, { on := 2, ground := Ground.phase }, { on := 3, ground := Ground.phase }, { on := 4, ground := Ground.phase }, { on := 5, ground := Ground.phase }, { on := 6, ground := Ground.phase }], guard := none }) rfl (fun K hK => ?_) AllReadyH.nil
    go_simp
    refine hK.out _ _ ?_ (fun hHeld => ?_)
    · exact True.intro
    clear hK K
    (try simp only [Act.put])
    (try simp only [List.setIfInBounds_toArray])
    (try simp only [List.set_cons_succ])
    (try simp only [List.set_cons_zero])
    refine wpAnyH_done (by kernel_rfl) ?_ _
    go_wp2
    go_meet
    case rel => exact ⟨p1, q1, rfl, B1.out, MN.out, BB.out⟩
  case rest =>
    obtain ⟨p1, q1, rfl, B1', MM', BB'⟩ := hcut
    clear B1 MM BB
    have B1 := Lib.hid B1'
    have MM := Lib.hid MM'
    have BB := Lib.hid BB'
    clear B1' MM' BB'
    go_upto_region 3 with fail
    go_cut [4] (fun s wx => ∃ p2 q2, s = .int .i64 0 ∧ Box wx b1 #[.slice p2 2 2, .slice q2 2 2] 31 ∧ MD (fun b => b ≠ b1) wx (.slice p2 2 2) (.slice q2 2 2) A2 ∧ Below w.heap.size w wx)
    case first =>
      have B1' := Lib.hid (B1.out.below ((Below.refl _ _).drew))
      have MM' := Lib.hid (MM.out.below ((Below.refl _ _).drew))
      have BB' := Lib.hid (BB.out.trans (((Below.refl _ _).drew).mono BB.out.size))
      clear B1
      have B1 := B1'
      clear B1'
      clear MM
      have MM := MM'
      clear MM'
      clear BB
      have BB := BB'
      clear BB'
      refine wp_region_held_drew (S := fun w' => True) (by kernel_rfl) True.intro (fun hHeld => ?_)
      generalize World.drew wc = V7 at *
      refine wpAnyH_ready (rs := [0, 1]) (by kernel_rfl) (by simp) ?_
      refine AllReadyH.cons (o := { dst := some 40, op := Op.load 31 (Operand.tmp 1), type := 31, pos := "law.go:31", after := #[], guard := none }) rfl (fun K hK => ?_) ?_
      · skip
        obtain ⟨⟨c0, c1⟩, -⟩ := B1.out.cells2
        go_simp
        clear c0 c1
        refine hK.out _ _ ?_ (fun hHeld => ?_)
        · exact True.intro
        clear hK K
        (try simp only [Act.put])
        (try simp only [List.setIfInBounds_toArray])
        (try simp only [List.set_cons_succ])
        (try simp only [List.set_cons_zero])
        refine wpAnyH_ready (rs := [1]) (by kernel_rfl) (by simp) ?_
        refine AllReadyH.cons (o := { dst := some 41, op := Op.call { callee := Callee.value (Operand.func 29), args := #[Operand.const (Value.int IntKind.i64 1)], argTypes := #[2] }, type := 45, pos := "law.go:31", after := #[], guard := none }) rfl (fun K hK => ?_) AllReadyH.nil
        go_simp
        go_at_call 29
        refine (word_any 1 _).mono ?_
        rintro e v8 ⟨rfl, hb⟩
        have B1' := Lib.hid (B1.out.below (hb))
        have MM' := Lib.hid (MM.out.below (hb))
        have BB' := Lib.hid (BB.out.trans ((hb).mono BB.out.size))
        clear B1
        have B1 := B1'
        clear B1'
        clear MM
        have MM := MM'
        clear MM'
        clear BB
        have BB := BB'
        clear BB'
        clear hb
        go_simp
        refine hK.out _ _ ?_ (fun hHeld => ?_)
        · exact True.intro
        clear hK K
        (try simp only [Act.put])
        (try simp only [List.setIfInBounds_toArray])
        (try simp only [List.set_cons_succ])
        (try simp only [List.set_cons_zero])
        refine wpAnyH_ready (rs := [2]) (by kernel_rfl) (by simp) ?_
        refine AllReadyH.cons (o := { dst := some 42, op := Op.call { callee := Callee.value (Operand.func 24), args := #[Operand.tmp 40, Operand.const (Value.int IntKind.i64 1), Operand.const (Value.int IntKind.i64 1), Operand.tmp 41, Operand.const (Value.bool true)], argTypes := #[31, 3, 42, 45, 4] }, type := 33, pos := "law.go:31", after := #[{ on := 0, ground := Ground.data }, { on := 1, ground := Ground.data }, { on := 1, ground := Ground.chain }], guard := none }) rfl (fun K hK => ?_) AllReadyH.nil
        go_simp
        go_at_call 24
        have hl1 := B1.out.lt
        refine (store_rel _ _ A1 2 0 1 1 0 0 _ _ MM.out good1 (by omega) (by rw [n1.2]; omega) (by rw [n1.1]; omega)).mono ?_
        rintro e v9 ⟨pv, vv, rfl, hm, hb⟩
        have B1' := Lib.hid (B1.out.below (hb))
        have MM' := Lib.hid (MM.out.below (hb))
        have BB' := Lib.hid (BB.out.trans ((hb).mono BB.out.size))
        clear B1
        have B1 := B1'
        clear B1'
        clear MM
        have MM := MM'
        clear MM'
        clear BB
        have BB := BB'
        clear BB'
        clear hb
        have MN := Lib.hid (hm)
        clear MM
        clear hm
        obtain ⟨p2, q2, e1, e2⟩ := MN.out.sl n2.1 n2.2
        subst e1 e2
        have MN' := Lib.hid (MN.out.imp (D' := fun b => b ≠ b1) (fun b hb => by
          rcases hb with hb | hb
          · exact hb
          · omega))
        clear MN
        have MN := MN'
        clear MN'
        go_simp
        refine hK.out _ _ ?_ (fun hHeld => ?_)
        · exact True.intro
        clear hK K
        (try simp only [Act.put])
        (try simp only [List.setIfInBounds_toArray])
        (try simp only [List.set_cons_succ])
        (try simp only [List.set_cons_zero])
        refine wpAnyH_take (i := 3) (oi := { dst := some 39, op := Op.move (Operand.tmp 42), type := 33, pos := "law.go:31", after := #[{ on := 2, ground := Ground.data }], guard := none }) (v := ?d10_1xv3) rfl (by kernel_rfl) (by kernel_rfl) (by kernel_rfl) (fun _ _ _ h => h) (Or.inl ⟨by rfl, ?d10_1xy3⟩) (by assumption) ?d10_1xr3
        case d10_1xy3 => (intro w hSw; (try dsimp only at hSw); go_simp; try with_reducible rfl)
        (try simp only [Act.put])
        (try simp only [List.setIfInBounds_toArray])
        (try simp only [List.set_cons_succ])
        (try simp only [List.set_cons_zero])
        refine wpAnyH_take (i := 4) (oi := { dst := some 43, op := Op.extract (Operand.tmp 39) 0, type := 31, pos := "law.go:31", after := #[{ on := 3, ground := Ground.data }], guard := none }) (v := ?d10_2xv4) rfl (by kernel_rfl) (by kernel_rfl) (by kernel_rfl) (fun _ _ _ h => h) (Or.inl ⟨by rfl, ?d10_2xy4⟩) (by assumption) ?d10_2xr4
        case d10_2xy4 => (intro w hSw; (try dsimp only at hSw); go_simp; try with_reducible rfl)
        (try simp only [Act.put])
        (try simp only [List.setIfInBounds_toArray])
        (try simp only [List.set_cons_succ])
        (try simp only [List.set_cons_zero])
        refine wpAnyH_take (i := 5) (oi := { dst := some 44, op := Op.extract (Operand.tmp 39) 1, type := 32, pos := "law.go:31", after := #[{ on := 3, ground := Ground.data }, { on := 6, ground := Ground.gcOnly Departure.lateStores }], guard := none }) (v := ?d10_3xv5) rfl (by kernel_rfl) (by kernel_rfl) (by kernel_rfl) (fun _ _ _ h => h) (Or.inl ⟨by rfl, ?d10_3xy5⟩) (by assumption) ?d10_3xr5
        case d10_3xy5 => (intro w hSw; (try dsimp only at hSw); go_simp; try with_reducible rfl)
        (try simp only [Act.put])
        (try simp only [List.setIfInBounds_toArray])
        (try simp only [List.set_cons_succ])
        (try simp only [List.set_cons_zero])
        refine wpAnyH_ready (rs := [6]) (by kernel_rfl) (by simp) ?_
        refine AllReadyH.cons (o := { dst := none, op := Op.store 31 (Operand.tmp 1) (Operand.tmp 43), type := 0, pos := "law.go:31", after := #[{ on := 4, ground := Ground.data }, { on := 2, ground := Ground.chain }, { on := 0, ground := Ground.phase }, { on := 1, ground := Ground.phase }, { on := 2, ground := Ground.phase }, { on := 3, ground := Ground.phase }, { on := 4, ground := Ground.phase }, { on := 5, ground := Ground.textOnly Departure.lateStores }], guard := none }) rfl (fun K hK => ?_) AllReadyH.nil
        obtain ⟨⟨m0, m1⟩, g0, g1⟩ := B1.out.cells2
        go_simp
        clear m0 g0 m1 g1
        have B1' := Lib.hid (((B1.out).set 0 (.slice p2 2 2)).set 1 (.slice q2 2 2))
        have MN' := Lib.hid (MN.out.only B1.out (by simp) (((Only.refl b1 v9).set 0 (.slice p2 2 2)).set 1 (.slice q2 2 2)))
        have BB' := Lib.hid (((BB.out).put b1 (by omega) 0 (.slice p2 2 2)).put b1 (by omega) 1 (.slice q2 2 2))
        clear B1
        have B1 := B1'
        clear B1'
        clear MN
        have MN := MN'
        clear MN'
        clear BB
        have BB := BB'
        clear BB'
        generalize (World.setCell (World.setCell v9 ⟨b1, 0, none⟩ (.slice p2 2 2)) ⟨b1, 1, none⟩ (.slice q2 2 2)) = v10 at *
        refine hK.out _ _ ?_ (fun hHeld => ?_)
        · exact True.intro
        clear hK K
        (try simp only [Act.put])
        (try simp only [List.setIfInBounds_toArray])
        (try simp only [List.set_cons_succ])
        (try simp only [List.set_cons_zero])
        refine wpAnyH_ready (rs := [7]) (by kernel_rfl) (by simp) ?_
        refine AllReadyH.cons (o := { dst := some 4, op := Op.assign (Operand.tmp 44), type := 32, pos := "law.go:31", after := #[{ on := 5, ground := Ground.data }, { on := 6, ground := Ground.chain }, { on := 0, ground := Ground.phase }, { on := 1, ground := Ground.phase }, { on := 2, ground := Ground.phase }, { on := 3, ground := Ground.phase }, { on := 4, ground := Ground.phase }, { on := 5, ground := Ground.phase }, { on := 6, ground := Ground.phase }], guard := none }) rfl (fun K hK => ?_) AllReadyH.nil
        go_simp
        refine hK.out _ _ ?_ (fun hHeld => ?_)
        · exact True.intro
        clear hK K
        (try simp only [Act.put])
        (try simp only [List.setIfInBounds_toArray])
        (try simp only [List.set_cons_succ])
        (try simp only [List.set_cons_zero])
        refine wpAnyH_done (by kernel_rfl) ?_ _
        go_wp2
        go_meet
        case rel => exact ⟨p2, q2, rfl, B1.out, MN.out, BB.out⟩
      refine AllReadyH.cons (o := { dst := some 41, op := Op.call { callee := Callee.value (Operand.func 29), args := #[Operand.const (Value.int IntKind.i64 1)], argTypes := #[2] }, type := 45, pos := "law.go:31", after := #[], guard := none }) rfl (fun K hK => ?_) AllReadyH.nil
      go_simp
      go_at_call 29
      refine (word_any 1 _).mono ?_
      rintro e v11 ⟨rfl, hb⟩
      have B1' := Lib.hid (B1.out.below (hb))
      have MM' := Lib.hid (MM.out.below (hb))
      have BB' := Lib.hid (BB.out.trans ((hb).mono BB.out.size))
      clear B1
      have B1 := B1'
      clear B1'
      clear MM
      have MM := MM'
      clear MM'
      clear BB
      have BB := BB'
      clear BB'
      clear hb
      go_simp
      refine hK.out _ _ ?_ (fun hHeld => ?_)
      · exact True.intro
      clear hK K
      (try simp only [Act.put])
      (try simp only [List.setIfInBounds_toArray])
      (try simp only [List.set_cons_succ])
      (try simp only [List.set_cons_zero])
      refine wpAnyH_ready (rs := [0]) (by kernel_rfl) (by simp) ?_
      refine AllReadyH.cons (o := { dst := some 40, op := Op.load 31 (Operand.tmp 1), type := 31, pos := "law.go:31", after := #[], guard := none }) rfl (fun K hK => ?_) AllReadyH.nil
      obtain ⟨⟨c0, c1⟩, -⟩ := B1.out.cells2
      go_simp
      clear c0 c1
      refine hK.out _ _ ?_ (fun hHeld => ?_)
      · exact True.intro
      clear hK K
      (try simp only [Act.put])
      (try simp only [List.setIfInBounds_toArray])
      (try simp only [List.set_cons_succ])
      (try simp only [List.set_cons_zero])
      refine wpAnyH_ready (rs := [2]) (by kernel_rfl) (by simp) ?_
      refine AllReadyH.cons (o := { dst := some 42, op := Op.call { callee := Callee.value (Operand.func 24), args := #[Operand.tmp 40, Operand.const (Value.int IntKind.i64 1), Operand.const (Value.int IntKind.i64 1), Operand.tmp 41, Operand.const (Value.bool true)], argTypes := #[31, 3, 42, 45, 4] }, type := 33, pos := "law.go:31", after := #[{ on := 0, ground := Ground.data }, { on := 1, ground := Ground.data }, { on := 1, ground := Ground.chain }], guard := none }) rfl (fun K hK => ?_) AllReadyH.nil
      go_simp
      go_at_call 24
      have hl1 := B1.out.lt
      refine (store_rel _ _ A1 2 0 1 1 0 0 _ _ MM.out good1 (by omega) (by rw [n1.2]; omega) (by rw [n1.1]; omega)).mono ?_
      rintro e v12 ⟨pv, vv, rfl, hm, hb⟩
      have B1' := Lib.hid (B1.out.below (hb))
      have MM' := Lib.hid (MM.out.below (hb))
      have BB' := Lib.hid (BB.out.trans ((hb).mono BB.out.size))
      clear B1
      have B1 := B1'
      clear B1'
      clear MM
      have MM := MM'
      clear MM'
      clear BB
      have BB := BB'
      clear BB'
      clear hb
      have MN := Lib.hid (hm)
      clear MM
      clear hm
      obtain ⟨p2, q2, e1, e2⟩ := MN.out.sl n2.1 n2.2
      subst e1 e2
      have MN' := Lib.hid (MN.out.imp (D' := fun b => b ≠ b1) (fun b hb => by
        rcases hb with hb | hb
        · exact hb
        · omega))
      clear MN
      have MN := MN'
      clear MN'
      go_simp
      refine hK.out _ _ ?_ (fun hHeld => ?_)
      · exact True.intro
      clear hK K
      (try simp only [Act.put])
      (try simp only [List.setIfInBounds_toArray])
      (try simp only [List.set_cons_succ])
      (try simp only [List.set_cons_zero])
      refine wpAnyH_take (i := 3) (oi := { dst := some 39, op := Op.move (Operand.tmp 42), type := 33, pos := "law.go:31", after := #[{ on := 2, ground := Ground.data }], guard := none }) (v := ?d13_4xv3) rfl (by kernel_rfl) (by kernel_rfl) (by kernel_rfl) (fun _ _ _ h => h) (Or.inl ⟨by rfl, ?d13_4xy3⟩) (by assumption) ?d13_4xr3
      case d13_4xy3 => (intro w hSw; (try dsimp only at hSw); go_simp; try with_reducible rfl)
      (try simp only [Act.put])
      (try simp only [List.setIfInBounds_toArray])
      (try simp only [List.set_cons_succ])
      (try simp only [List.set_cons_zero])
      refine wpAnyH_take (i := 4) (oi := { dst := some 43, op := Op.extract (Operand.tmp 39) 0, type := 31, pos := "law.go:31", after := #[{ on := 3, ground := Ground.data }], guard := none }) (v := ?d13_5xv4) rfl (by kernel_rfl) (by kernel_rfl) (by kernel_rfl) (fun _ _ _ h => h) (Or.inl ⟨by rfl, ?d13_5xy4⟩) (by assumption) ?d13_5xr4
      case d13_5xy4 => (intro w hSw; (try dsimp only at hSw); go_simp; try with_reducible rfl)
      (try simp only [Act.put])
      (try simp only [List.setIfInBounds_toArray])
      (try simp only [List.set_cons_succ])
      (try simp only [List.set_cons_zero])
      refine wpAnyH_take (i := 5) (oi := { dst := some 44, op := Op.extract (Operand.tmp 39) 1, type := 32, pos := "law.go:31", after := #[{ on := 3, ground := Ground.data }, { on := 6, ground := Ground.gcOnly Departure.lateStores }], guard := none }) (v := ?d13_6xv5) rfl (by kernel_rfl) (by kernel_rfl) (by kernel_rfl) (fun _ _ _ h => h) (Or.inl ⟨by rfl, ?d13_6xy5⟩) (by assumption) ?d13_6xr5
      case d13_6xy5 => (intro w hSw; (try dsimp only at hSw); go_simp; try with_reducible rfl)
      (try simp only [Act.put])
      (try simp only [List.setIfInBounds_toArray])
      (try simp only [List.set_cons_succ])
      (try simp only [List.set_cons_zero])
      refine wpAnyH_ready (rs := [6]) (by kernel_rfl) (by simp) ?_
      refine AllReadyH.cons (o := { dst := none, op := Op.store 31 (Operand.tmp 1) (Operand.tmp 43), type := 0, pos := "law.go:31", after := #[{ on := 4, ground := Ground.data }, { on := 2, ground := Ground.chain }, { on := 0, ground := Ground.phase }, { on := 1, ground := Ground.phase }, { on := 2, ground := Ground.phase }, { on := 3, ground := Ground.phase }, { on := 4, ground := Ground.phase }, { on := 5, ground := Ground.textOnly Departure.lateStores }], guard := none }) rfl (fun K hK => ?_) AllReadyH.nil
      obtain ⟨⟨m0, m1⟩, g0, g1⟩ := B1.out.cells2
      go_simp
      clear m0 g0 m1 g1
      have B1' := Lib.hid (((B1.out).set 0 (.slice p2 2 2)).set 1 (.slice q2 2 2))
      have MN' := Lib.hid (MN.out.only B1.out (by simp) (((Only.refl b1 v12).set 0 (.slice p2 2 2)).set 1 (.slice q2 2 2)))
      have BB' := Lib.hid (((BB.out).put b1 (by omega) 0 (.slice p2 2 2)).put b1 (by omega) 1 (.slice q2 2 2))
      clear B1
      have B1 := B1'
      clear B1'
      clear MN
      have MN := MN'
      clear MN'
      clear BB
      have BB := BB'
      clear BB'
      generalize (World.setCell (World.setCell v12 ⟨b1, 0, none⟩ (.slice p2 2 2)) ⟨b1, 1, none⟩ (.slice q2 2 2)) = v13 at *
      refine hK.out _ _ ?_ (fun hHeld => ?_)
      · exact True.intro
      clear hK K
      (try simp only [Act.put])
      (try simp only [List.setIfInBounds_toArray])
      (try simp only [List.set_cons_succ])
      (try simp only [List.set_cons_zero])
      refine wpAnyH_ready (rs := [7]) (by kernel_rfl) (by simp) ?_
      refine AllReadyH.cons (o := { dst := some 4, op := Op.assign (Operand.tmp 44), type := 32, pos := "law.go:31", after := #[{ on := 5, ground := Ground.data }, { on := 6, ground := Ground.chain }, { on := 0, ground := Ground.phase }, { on := 1, ground := Ground.phase }, { on := 2, ground := Ground.phase }, { on := 3, ground := Ground.phase }, { on := 4, ground := Ground.phase }, { on := 5, ground := Ground.phase }, { on := 6, ground := Ground.phase }], guard := none }) rfl (fun K hK => ?_) AllReadyH.nil
      go_simp
      refine hK.out _ _ ?_ (fun hHeld => ?_)
      · exact True.intro
      clear hK K
      (try simp only [Act.put])
      (try simp only [List.setIfInBounds_toArray])
      (try simp only [List.set_cons_succ])
      (try simp only [List.set_cons_zero])
      refine wpAnyH_done (by kernel_rfl) ?_ _
      go_wp2
      go_meet
      case rel => exact ⟨p2, q2, rfl, B1.out, MN.out, BB.out⟩
    case rest =>
      obtain ⟨p2, q2, rfl, B1', MM', BB'⟩ := hcut
      clear B1 MM BB
      have B1 := Lib.hid B1'
      have MM := Lib.hid MM'
      have BB := Lib.hid BB'
      clear B1' MM' BB'
      go_upto_region 4 with fail
      obtain ⟨⟨c0, c1⟩, -⟩ := B1.out.cells2
      go_wp2_with fail
      clear c0 c1
      refine (load_plain _ _ A2 3 1 0 1 _ _ MM.out good2 (by omega) (by rw [n2.2]; omega) (by rw [n2.1]; omega) (by omega) (by omega)).mono ?_
      rintro e a4 ⟨vv, rfl, hm, hb⟩
      have B1' := Lib.hid (B1.out.below (hb))
      have MM' := Lib.hid (MM.out.below (hb))
      have BB' := Lib.hid (BB.out.trans ((hb).mono BB.out.size))
      clear B1
      have B1 := B1'
      clear B1'
      clear MM
      have MM := MM'
      clear MM'
      clear BB
      have BB := BB'
      clear BB'
      clear hb
      obtain ⟨_, q5, -, e2⟩ := hm.sl (np := 2) (nv := 2) (show (Mem.readAt _ _ _ _ _).hs.length = 2 from n2.1) (by simp [Mem.readAt, n2.2])
      subst e2
      rw [i1, w1]
      clear hm
      go_upto_region 5 with fail
      have hlt_b5 := BB.out.size
      have hlt_b5_B1 := B1.out.lt
      have B1' := Lib.hid (B1.out.below (below_new a4 (.cells #[.slice p2 2 2, .slice q5 2 2] 31)))
      have MM' := Lib.hid (MM.out.below (below_new a4 (.cells #[.slice p2 2 2, .slice q5 2 2] 31)))
      have BB' := Lib.hid (BB.out.trans ((below_new a4 (.cells #[.slice p2 2 2, .slice q5 2 2] 31)).mono BB.out.size))
      clear B1
      have B1 := B1'
      clear B1'
      clear MM
      have MM := MM'
      clear MM'
      clear BB
      have BB := BB'
      clear BB'
      have B5 := Lib.hid (Box.new a4 #[.slice p2 2 2, .slice q5 2 2] 31 rfl)
      have hsz_b5 : (World.alloc a4 (.cells #[.slice p2 2 2, .slice q5 2 2] 31)).heap.size = (World.heap a4).size + 1 := by simp
      generalize World.alloc a4 (.cells #[.slice p2 2 2, .slice q5 2 2] 31) = a5 at *
      generalize World.heap a4 = hp_b5 at *
      generalize hp_b5.size = b5 at *
      have hlt_b6 := BB.out.size
      have B1' := Lib.hid (B1.out.below (below_new a5 (.cells #[.int .i64 0, .int .u32 0, .int .u32 0] 45)))
      have MM' := Lib.hid (MM.out.below (below_new a5 (.cells #[.int .i64 0, .int .u32 0, .int .u32 0] 45)))
      have B5' := Lib.hid (B5.out.below (below_new a5 (.cells #[.int .i64 0, .int .u32 0, .int .u32 0] 45)))
      have BB' := Lib.hid (BB.out.trans ((below_new a5 (.cells #[.int .i64 0, .int .u32 0, .int .u32 0] 45)).mono BB.out.size))
      clear B1
      have B1 := B1'
      clear B1'
      clear MM
      have MM := MM'
      clear MM'
      clear B5
      have B5 := B5'
      clear B5'
      clear BB
      have BB := BB'
      clear BB'
      have B6 := Lib.hid (Box.new a5 #[.int .i64 0, .int .u32 0, .int .u32 0] 45 (n := b5 + 1) hsz_b5.symm)
      have hsz_b6 : (World.alloc a5 (.cells #[.int .i64 0, .int .u32 0, .int .u32 0] 45)).heap.size = b5 + 1 + 1 := by simp [hsz_b5]
      rw [hsz_b5] at hlt_b6
      generalize World.alloc a5 (.cells #[.int .i64 0, .int .u32 0, .int .u32 0] 45) = a6 at *
      obtain ⟨b6, hq_b6⟩ : ∃ b, b5 + 1 = b := ⟨_, rfl⟩
      rw [hq_b6] at B6 hsz_b6 ⊢
      obtain ⟨⟨c0, c1⟩, -⟩ := B1.out.cells2
      go_wp2_with fail
      clear c0 c1
      refine (load_plain _ _ A2 3 1 0 0 _ _ MM.out good2 (by omega) (by rw [n2.2]; omega) (by rw [n2.1]; omega) (by omega) (by omega)).mono ?_
      rintro e a7 ⟨vv, rfl, hm, hb⟩
      have B1' := Lib.hid (B1.out.below (hb))
      have MM' := Lib.hid (MM.out.below (hb))
      have B5' := Lib.hid (B5.out.below (hb))
      have B6' := Lib.hid (B6.out.below (hb))
      have BB' := Lib.hid (BB.out.trans ((hb).mono BB.out.size))
      clear B1
      have B1 := B1'
      clear B1'
      clear MM
      have MM := MM'
      clear MM'
      clear B5
      have B5 := B5'
      clear B5'
      clear B6
      have B6 := B6'
      clear B6'
      clear BB
      have BB := BB'
      clear BB'
      clear hb
      obtain ⟨_, q8, -, e2⟩ := hm.sl (np := 2) (nv := 2) (show (Mem.readAt _ _ _ _ _).hs.length = 2 from n2.1) (by simp [Mem.readAt, n2.2])
      subst e2
      rw [i2, w2]
      clear hm
      go_upto_region 6 with fail
      have hlt_b8 := BB.out.size
      have hlt_b8_B1 := B1.out.lt
      have hlt_b8_B5 := B5.out.lt
      have hlt_b8_B6 := B6.out.lt
      have B1' := Lib.hid (B1.out.below (below_new a7 (.cells #[.slice p2 2 2, .slice q8 2 2] 31)))
      have MM' := Lib.hid (MM.out.below (below_new a7 (.cells #[.slice p2 2 2, .slice q8 2 2] 31)))
      have B5' := Lib.hid (B5.out.below (below_new a7 (.cells #[.slice p2 2 2, .slice q8 2 2] 31)))
      have B6' := Lib.hid (B6.out.below (below_new a7 (.cells #[.slice p2 2 2, .slice q8 2 2] 31)))
      have BB' := Lib.hid (BB.out.trans ((below_new a7 (.cells #[.slice p2 2 2, .slice q8 2 2] 31)).mono BB.out.size))
      clear B1
      have B1 := B1'
      clear B1'
      clear MM
      have MM := MM'
      clear MM'
      clear B5
      have B5 := B5'
      clear B5'
      clear B6
      have B6 := B6'
      clear B6'
      clear BB
      have BB := BB'
      clear BB'
      have B8 := Lib.hid (Box.new a7 #[.slice p2 2 2, .slice q8 2 2] 31 rfl)
      have hsz_b8 : (World.alloc a7 (.cells #[.slice p2 2 2, .slice q8 2 2] 31)).heap.size = (World.heap a7).size + 1 := by simp
      generalize World.alloc a7 (.cells #[.slice p2 2 2, .slice q8 2 2] 31) = a8 at *
      generalize World.heap a7 = hp_b8 at *
      generalize hp_b8.size = b8 at *
      have hlt_b9 := BB.out.size
      have B1' := Lib.hid (B1.out.below (below_new a8 (.cells #[.int .i64 7, .int .u32 0, .int .u32 0] 45)))
      have MM' := Lib.hid (MM.out.below (below_new a8 (.cells #[.int .i64 7, .int .u32 0, .int .u32 0] 45)))
      have B5' := Lib.hid (B5.out.below (below_new a8 (.cells #[.int .i64 7, .int .u32 0, .int .u32 0] 45)))
      have B6' := Lib.hid (B6.out.below (below_new a8 (.cells #[.int .i64 7, .int .u32 0, .int .u32 0] 45)))
      have B8' := Lib.hid (B8.out.below (below_new a8 (.cells #[.int .i64 7, .int .u32 0, .int .u32 0] 45)))
      have BB' := Lib.hid (BB.out.trans ((below_new a8 (.cells #[.int .i64 7, .int .u32 0, .int .u32 0] 45)).mono BB.out.size))
      clear B1
      have B1 := B1'
      clear B1'
      clear MM
      have MM := MM'
      clear MM'
      clear B5
      have B5 := B5'
      clear B5'
      clear B6
      have B6 := B6'
      clear B6'
      clear B8
      have B8 := B8'
      clear B8'
      clear BB
      have BB := BB'
      clear BB'
      have B9 := Lib.hid (Box.new a8 #[.int .i64 7, .int .u32 0, .int .u32 0] 45 (n := b8 + 1) hsz_b8.symm)
      have hsz_b9 : (World.alloc a8 (.cells #[.int .i64 7, .int .u32 0, .int .u32 0] 45)).heap.size = b8 + 1 + 1 := by simp [hsz_b8]
      rw [hsz_b8] at hlt_b9
      generalize World.alloc a8 (.cells #[.int .i64 7, .int .u32 0, .int .u32 0] 45) = a9 at *
      obtain ⟨b9, hq_b9⟩ : ∃ b, b8 + 1 = b := ⟨_, rfl⟩
      rw [hq_b9] at B9 hsz_b9 ⊢
      obtain ⟨⟨c0, c1⟩, -⟩ := B1.out.cells2
      go_wp2_with fail
      clear c0 c1
      refine (load_acq _ _ A2 3 1 1 0 _ _ MM.out good2 (by omega) (by rw [n2.2]; omega) (by rw [n2.1]; omega) (by omega) (by omega)).mono ?_
      rintro e a10 ⟨vv, rfl, hm, hb⟩
      have B1' := Lib.hid (B1.out.below (hb))
      have MM' := Lib.hid (MM.out.below (hb))
      have B5' := Lib.hid (B5.out.below (hb))
      have B6' := Lib.hid (B6.out.below (hb))
      have B8' := Lib.hid (B8.out.below (hb))
      have B9' := Lib.hid (B9.out.below (hb))
      have BB' := Lib.hid (BB.out.trans ((hb).mono BB.out.size))
      clear B1
      have B1 := B1'
      clear B1'
      clear MM
      have MM := MM'
      clear MM'
      clear B5
      have B5 := B5'
      clear B5'
      clear B6
      have B6 := B6'
      clear B6'
      clear B8
      have B8 := B8'
      clear B8'
      clear B9
      have B9 := B9'
      clear B9'
      clear BB
      have BB := BB'
      clear BB'
      clear hb
      obtain ⟨_, q11, -, e2⟩ := hm.sl (np := 2) (nv := 2) (show (Mem.readAt _ _ _ _ _).hs.length = 2 from n2.1) (by simp [Mem.readAt, n2.2])
      subst e2
      rw [i3, w3]
      rw [i3] at hm
      have MN : Hid (MD _ _ (.slice p2 2 2) (.slice q11 2 2) A3) := Lib.hid hm
      clear hm
      go_upto_region 7 with fail
      have hlt_b11 := BB.out.size
      have hlt_b11_B1 := B1.out.lt
      have hlt_b11_B5 := B5.out.lt
      have hlt_b11_B6 := B6.out.lt
      have hlt_b11_B8 := B8.out.lt
      have hlt_b11_B9 := B9.out.lt
      have B1' := Lib.hid (B1.out.below (below_new a10 (.cells #[.slice p2 2 2, .slice q11 2 2] 31)))
      have MM' := Lib.hid (MM.out.below (below_new a10 (.cells #[.slice p2 2 2, .slice q11 2 2] 31)))
      have B5' := Lib.hid (B5.out.below (below_new a10 (.cells #[.slice p2 2 2, .slice q11 2 2] 31)))
      have B6' := Lib.hid (B6.out.below (below_new a10 (.cells #[.slice p2 2 2, .slice q11 2 2] 31)))
      have B8' := Lib.hid (B8.out.below (below_new a10 (.cells #[.slice p2 2 2, .slice q11 2 2] 31)))
      have B9' := Lib.hid (B9.out.below (below_new a10 (.cells #[.slice p2 2 2, .slice q11 2 2] 31)))
      have MN' := Lib.hid (MN.out.below (below_new a10 (.cells #[.slice p2 2 2, .slice q11 2 2] 31)))
      have BB' := Lib.hid (BB.out.trans ((below_new a10 (.cells #[.slice p2 2 2, .slice q11 2 2] 31)).mono BB.out.size))
      clear B1
      have B1 := B1'
      clear B1'
      clear MM
      have MM := MM'
      clear MM'
      clear B5
      have B5 := B5'
      clear B5'
      clear B6
      have B6 := B6'
      clear B6'
      clear B8
      have B8 := B8'
      clear B8'
      clear B9
      have B9 := B9'
      clear B9'
      clear MN
      have MN := MN'
      clear MN'
      clear BB
      have BB := BB'
      clear BB'
      have B11 := Lib.hid (Box.new a10 #[.slice p2 2 2, .slice q11 2 2] 31 rfl)
      have hsz_b11 : (World.alloc a10 (.cells #[.slice p2 2 2, .slice q11 2 2] 31)).heap.size = (World.heap a10).size + 1 := by simp
      generalize World.alloc a10 (.cells #[.slice p2 2 2, .slice q11 2 2] 31) = a11 at *
      generalize World.heap a10 = hp_b11 at *
      generalize hp_b11.size = b11 at *
      have hlt_b12 := BB.out.size
      have B1' := Lib.hid (B1.out.below (below_new a11 (.cells #[.int .i64 1, .int .u32 0, .int .u32 0] 45)))
      have MM' := Lib.hid (MM.out.below (below_new a11 (.cells #[.int .i64 1, .int .u32 0, .int .u32 0] 45)))
      have B5' := Lib.hid (B5.out.below (below_new a11 (.cells #[.int .i64 1, .int .u32 0, .int .u32 0] 45)))
      have B6' := Lib.hid (B6.out.below (below_new a11 (.cells #[.int .i64 1, .int .u32 0, .int .u32 0] 45)))
      have B8' := Lib.hid (B8.out.below (below_new a11 (.cells #[.int .i64 1, .int .u32 0, .int .u32 0] 45)))
      have B9' := Lib.hid (B9.out.below (below_new a11 (.cells #[.int .i64 1, .int .u32 0, .int .u32 0] 45)))
      have MN' := Lib.hid (MN.out.below (below_new a11 (.cells #[.int .i64 1, .int .u32 0, .int .u32 0] 45)))
      have B11' := Lib.hid (B11.out.below (below_new a11 (.cells #[.int .i64 1, .int .u32 0, .int .u32 0] 45)))
      have BB' := Lib.hid (BB.out.trans ((below_new a11 (.cells #[.int .i64 1, .int .u32 0, .int .u32 0] 45)).mono BB.out.size))
      clear B1
      have B1 := B1'
      clear B1'
      clear MM
      have MM := MM'
      clear MM'
      clear B5
      have B5 := B5'
      clear B5'
      clear B6
      have B6 := B6'
      clear B6'
      clear B8
      have B8 := B8'
      clear B8'
      clear B9
      have B9 := B9'
      clear B9'
      clear MN
      have MN := MN'
      clear MN'
      clear B11
      have B11 := B11'
      clear B11'
      clear BB
      have BB := BB'
      clear BB'
      have B12 := Lib.hid (Box.new a11 #[.int .i64 1, .int .u32 0, .int .u32 0] 45 (n := b11 + 1) hsz_b11.symm)
      have hsz_b12 : (World.alloc a11 (.cells #[.int .i64 1, .int .u32 0, .int .u32 0] 45)).heap.size = b11 + 1 + 1 := by simp [hsz_b11]
      rw [hsz_b11] at hlt_b12
      generalize World.alloc a11 (.cells #[.int .i64 1, .int .u32 0, .int .u32 0] 45) = a12 at *
      obtain ⟨b12, hq_b12⟩ : ∃ b, b11 + 1 = b := ⟨_, rfl⟩
      rw [hq_b12] at B12 hsz_b12 ⊢
      obtain ⟨⟨c0, c1⟩, -⟩ := B11.out.cells2
      go_wp2_with fail
      clear c0 c1
      refine (load_plain _ _ A3 3 1 0 1 _ _ MN.out good3 (by omega) (by rw [n3.2]; omega) (by rw [n3.1]; omega) (by omega) (by omega)).mono ?_
      rintro e a13 ⟨vv, rfl, hm, hb⟩
      have B1' := Lib.hid (B1.out.below (hb))
      have MM' := Lib.hid (MM.out.below (hb))
      have B5' := Lib.hid (B5.out.below (hb))
      have B6' := Lib.hid (B6.out.below (hb))
      have B8' := Lib.hid (B8.out.below (hb))
      have B9' := Lib.hid (B9.out.below (hb))
      have MN' := Lib.hid (MN.out.below (hb))
      have B11' := Lib.hid (B11.out.below (hb))
      have B12' := Lib.hid (B12.out.below (hb))
      have BB' := Lib.hid (BB.out.trans ((hb).mono BB.out.size))
      clear B1
      have B1 := B1'
      clear B1'
      clear MM
      have MM := MM'
      clear MM'
      clear B5
      have B5 := B5'
      clear B5'
      clear B6
      have B6 := B6'
      clear B6'
      clear B8
      have B8 := B8'
      clear B8'
      clear B9
      have B9 := B9'
      clear B9'
      clear MN
      have MN := MN'
      clear MN'
      clear B11
      have B11 := B11'
      clear B11'
      clear B12
      have B12 := B12'
      clear B12'
      clear BB
      have BB := BB'
      clear BB'
      clear hb
      obtain ⟨_, q14, -, e2⟩ := hm.sl (np := 2) (nv := 2) (show (Mem.readAt _ _ _ _ _).hs.length = 2 from n3.1) (by simp [Mem.readAt, n3.2])
      subst e2
      rw [i4, w4]
      clear hm
      go_upto_region 8 with fail
      have hlt_b14 := BB.out.size
      have hlt_b14_B1 := B1.out.lt
      have hlt_b14_B5 := B5.out.lt
      have hlt_b14_B6 := B6.out.lt
      have hlt_b14_B8 := B8.out.lt
      have hlt_b14_B9 := B9.out.lt
      have hlt_b14_B11 := B11.out.lt
      have hlt_b14_B12 := B12.out.lt
      have B1' := Lib.hid (B1.out.below (below_new a13 (.cells #[.slice p2 2 2, .slice q14 2 2] 31)))
      have MM' := Lib.hid (MM.out.below (below_new a13 (.cells #[.slice p2 2 2, .slice q14 2 2] 31)))
      have B5' := Lib.hid (B5.out.below (below_new a13 (.cells #[.slice p2 2 2, .slice q14 2 2] 31)))
      have B6' := Lib.hid (B6.out.below (below_new a13 (.cells #[.slice p2 2 2, .slice q14 2 2] 31)))
      have B8' := Lib.hid (B8.out.below (below_new a13 (.cells #[.slice p2 2 2, .slice q14 2 2] 31)))
      have B9' := Lib.hid (B9.out.below (below_new a13 (.cells #[.slice p2 2 2, .slice q14 2 2] 31)))
      have MN' := Lib.hid (MN.out.below (below_new a13 (.cells #[.slice p2 2 2, .slice q14 2 2] 31)))
      have B11' := Lib.hid (B11.out.below (below_new a13 (.cells #[.slice p2 2 2, .slice q14 2 2] 31)))
      have B12' := Lib.hid (B12.out.below (below_new a13 (.cells #[.slice p2 2 2, .slice q14 2 2] 31)))
      have BB' := Lib.hid (BB.out.trans ((below_new a13 (.cells #[.slice p2 2 2, .slice q14 2 2] 31)).mono BB.out.size))
      clear B1
      have B1 := B1'
      clear B1'
      clear MM
      have MM := MM'
      clear MM'
      clear B5
      have B5 := B5'
      clear B5'
      clear B6
      have B6 := B6'
      clear B6'
      clear B8
      have B8 := B8'
      clear B8'
      clear B9
      have B9 := B9'
      clear B9'
      clear MN
      have MN := MN'
      clear MN'
      clear B11
      have B11 := B11'
      clear B11'
      clear B12
      have B12 := B12'
      clear B12'
      clear BB
      have BB := BB'
      clear BB'
      have B14 := Lib.hid (Box.new a13 #[.slice p2 2 2, .slice q14 2 2] 31 rfl)
      have hsz_b14 : (World.alloc a13 (.cells #[.slice p2 2 2, .slice q14 2 2] 31)).heap.size = (World.heap a13).size + 1 := by simp
      generalize World.alloc a13 (.cells #[.slice p2 2 2, .slice q14 2 2] 31) = a14 at *
      generalize World.heap a13 = hp_b14 at *
      generalize hp_b14.size = b14 at *
      have hlt_b15 := BB.out.size
      have B1' := Lib.hid (B1.out.below (below_new a14 (.cells #[.int .i64 7, .int .u32 0, .int .u32 0] 45)))
      have MM' := Lib.hid (MM.out.below (below_new a14 (.cells #[.int .i64 7, .int .u32 0, .int .u32 0] 45)))
      have B5' := Lib.hid (B5.out.below (below_new a14 (.cells #[.int .i64 7, .int .u32 0, .int .u32 0] 45)))
      have B6' := Lib.hid (B6.out.below (below_new a14 (.cells #[.int .i64 7, .int .u32 0, .int .u32 0] 45)))
      have B8' := Lib.hid (B8.out.below (below_new a14 (.cells #[.int .i64 7, .int .u32 0, .int .u32 0] 45)))
      have B9' := Lib.hid (B9.out.below (below_new a14 (.cells #[.int .i64 7, .int .u32 0, .int .u32 0] 45)))
      have MN' := Lib.hid (MN.out.below (below_new a14 (.cells #[.int .i64 7, .int .u32 0, .int .u32 0] 45)))
      have B11' := Lib.hid (B11.out.below (below_new a14 (.cells #[.int .i64 7, .int .u32 0, .int .u32 0] 45)))
      have B12' := Lib.hid (B12.out.below (below_new a14 (.cells #[.int .i64 7, .int .u32 0, .int .u32 0] 45)))
      have B14' := Lib.hid (B14.out.below (below_new a14 (.cells #[.int .i64 7, .int .u32 0, .int .u32 0] 45)))
      have BB' := Lib.hid (BB.out.trans ((below_new a14 (.cells #[.int .i64 7, .int .u32 0, .int .u32 0] 45)).mono BB.out.size))
      clear B1
      have B1 := B1'
      clear B1'
      clear MM
      have MM := MM'
      clear MM'
      clear B5
      have B5 := B5'
      clear B5'
      clear B6
      have B6 := B6'
      clear B6'
      clear B8
      have B8 := B8'
      clear B8'
      clear B9
      have B9 := B9'
      clear B9'
      clear MN
      have MN := MN'
      clear MN'
      clear B11
      have B11 := B11'
      clear B11'
      clear B12
      have B12 := B12'
      clear B12'
      clear B14
      have B14 := B14'
      clear B14'
      clear BB
      have BB := BB'
      clear BB'
      have B15 := Lib.hid (Box.new a14 #[.int .i64 7, .int .u32 0, .int .u32 0] 45 (n := b14 + 1) hsz_b14.symm)
      have hsz_b15 : (World.alloc a14 (.cells #[.int .i64 7, .int .u32 0, .int .u32 0] 45)).heap.size = b14 + 1 + 1 := by simp [hsz_b14]
      rw [hsz_b14] at hlt_b15
      generalize World.alloc a14 (.cells #[.int .i64 7, .int .u32 0, .int .u32 0] 45) = a15 at *
      obtain ⟨b15, hq_b15⟩ : ∃ b, b14 + 1 = b := ⟨_, rfl⟩
      rw [hq_b15] at B15 hsz_b15 ⊢
      obtain ⟨⟨c0, c1⟩, -⟩ := B11.out.cells2
      go_wp2_with fail
      clear c0 c1
      refine (load_plain _ _ A3 3 1 0 5 _ _ MN.out good3 (by omega) (by rw [n3.2]; omega) (by rw [n3.1]; omega) (by omega) (by omega)).mono ?_
      rintro e a16 ⟨vv, rfl, hm, hb⟩
      have B1' := Lib.hid (B1.out.below (hb))
      have MM' := Lib.hid (MM.out.below (hb))
      have B5' := Lib.hid (B5.out.below (hb))
      have B6' := Lib.hid (B6.out.below (hb))
      have B8' := Lib.hid (B8.out.below (hb))
      have B9' := Lib.hid (B9.out.below (hb))
      have MN' := Lib.hid (MN.out.below (hb))
      have B11' := Lib.hid (B11.out.below (hb))
      have B12' := Lib.hid (B12.out.below (hb))
      have B14' := Lib.hid (B14.out.below (hb))
      have B15' := Lib.hid (B15.out.below (hb))
      have BB' := Lib.hid (BB.out.trans ((hb).mono BB.out.size))
      clear B1
      have B1 := B1'
      clear B1'
      clear MM
      have MM := MM'
      clear MM'
      clear B5
      have B5 := B5'
      clear B5'
      clear B6
      have B6 := B6'
      clear B6'
      clear B8
      have B8 := B8'
      clear B8'
      clear B9
      have B9 := B9'
      clear B9'
      clear MN
      have MN := MN'
      clear MN'
      clear B11
      have B11 := B11'
      clear B11'
      clear B12
      have B12 := B12'
      clear B12'
      clear B14
      have B14 := B14'
      clear B14'
      clear B15
      have B15 := B15'
      clear B15'
      clear BB
      have BB := BB'
      clear BB'
      clear hb
      obtain ⟨_, q17, -, e2⟩ := hm.sl (np := 2) (nv := 2) (show (Mem.readAt _ _ _ _ _).hs.length = 2 from n3.1) (by simp [Mem.readAt, n3.2])
      subst e2
      rw [i5, w4]
      clear hm
      go_upto_region 9 with fail
      have hlt_b17 := BB.out.size
      have hlt_b17_B1 := B1.out.lt
      have hlt_b17_B5 := B5.out.lt
      have hlt_b17_B6 := B6.out.lt
      have hlt_b17_B8 := B8.out.lt
      have hlt_b17_B9 := B9.out.lt
      have hlt_b17_B11 := B11.out.lt
      have hlt_b17_B12 := B12.out.lt
      have hlt_b17_B14 := B14.out.lt
      have hlt_b17_B15 := B15.out.lt
      have B1' := Lib.hid (B1.out.below (below_new a16 (.cells #[.slice p2 2 2, .slice q17 2 2] 31)))
      have MM' := Lib.hid (MM.out.below (below_new a16 (.cells #[.slice p2 2 2, .slice q17 2 2] 31)))
      have B5' := Lib.hid (B5.out.below (below_new a16 (.cells #[.slice p2 2 2, .slice q17 2 2] 31)))
      have B6' := Lib.hid (B6.out.below (below_new a16 (.cells #[.slice p2 2 2, .slice q17 2 2] 31)))
      have B8' := Lib.hid (B8.out.below (below_new a16 (.cells #[.slice p2 2 2, .slice q17 2 2] 31)))
      have B9' := Lib.hid (B9.out.below (below_new a16 (.cells #[.slice p2 2 2, .slice q17 2 2] 31)))
      have MN' := Lib.hid (MN.out.below (below_new a16 (.cells #[.slice p2 2 2, .slice q17 2 2] 31)))
      have B11' := Lib.hid (B11.out.below (below_new a16 (.cells #[.slice p2 2 2, .slice q17 2 2] 31)))
      have B12' := Lib.hid (B12.out.below (below_new a16 (.cells #[.slice p2 2 2, .slice q17 2 2] 31)))
      have B14' := Lib.hid (B14.out.below (below_new a16 (.cells #[.slice p2 2 2, .slice q17 2 2] 31)))
      have B15' := Lib.hid (B15.out.below (below_new a16 (.cells #[.slice p2 2 2, .slice q17 2 2] 31)))
      have BB' := Lib.hid (BB.out.trans ((below_new a16 (.cells #[.slice p2 2 2, .slice q17 2 2] 31)).mono BB.out.size))
      clear B1
      have B1 := B1'
      clear B1'
      clear MM
      have MM := MM'
      clear MM'
      clear B5
      have B5 := B5'
      clear B5'
      clear B6
      have B6 := B6'
      clear B6'
      clear B8
      have B8 := B8'
      clear B8'
      clear B9
      have B9 := B9'
      clear B9'
      clear MN
      have MN := MN'
      clear MN'
      clear B11
      have B11 := B11'
      clear B11'
      clear B12
      have B12 := B12'
      clear B12'
      clear B14
      have B14 := B14'
      clear B14'
      clear B15
      have B15 := B15'
      clear B15'
      clear BB
      have BB := BB'
      clear BB'
      have B17 := Lib.hid (Box.new a16 #[.slice p2 2 2, .slice q17 2 2] 31 rfl)
      have hsz_b17 : (World.alloc a16 (.cells #[.slice p2 2 2, .slice q17 2 2] 31)).heap.size = (World.heap a16).size + 1 := by simp
      generalize World.alloc a16 (.cells #[.slice p2 2 2, .slice q17 2 2] 31) = a17 at *
      generalize World.heap a16 = hp_b17 at *
      generalize hp_b17.size = b17 at *
      have hlt_b18 := BB.out.size
      have B1' := Lib.hid (B1.out.below (below_new a17 (.cells #[.int .i64 7, .int .u32 0, .int .u32 0] 45)))
      have MM' := Lib.hid (MM.out.below (below_new a17 (.cells #[.int .i64 7, .int .u32 0, .int .u32 0] 45)))
      have B5' := Lib.hid (B5.out.below (below_new a17 (.cells #[.int .i64 7, .int .u32 0, .int .u32 0] 45)))
      have B6' := Lib.hid (B6.out.below (below_new a17 (.cells #[.int .i64 7, .int .u32 0, .int .u32 0] 45)))
      have B8' := Lib.hid (B8.out.below (below_new a17 (.cells #[.int .i64 7, .int .u32 0, .int .u32 0] 45)))
      have B9' := Lib.hid (B9.out.below (below_new a17 (.cells #[.int .i64 7, .int .u32 0, .int .u32 0] 45)))
      have MN' := Lib.hid (MN.out.below (below_new a17 (.cells #[.int .i64 7, .int .u32 0, .int .u32 0] 45)))
      have B11' := Lib.hid (B11.out.below (below_new a17 (.cells #[.int .i64 7, .int .u32 0, .int .u32 0] 45)))
      have B12' := Lib.hid (B12.out.below (below_new a17 (.cells #[.int .i64 7, .int .u32 0, .int .u32 0] 45)))
      have B14' := Lib.hid (B14.out.below (below_new a17 (.cells #[.int .i64 7, .int .u32 0, .int .u32 0] 45)))
      have B15' := Lib.hid (B15.out.below (below_new a17 (.cells #[.int .i64 7, .int .u32 0, .int .u32 0] 45)))
      have B17' := Lib.hid (B17.out.below (below_new a17 (.cells #[.int .i64 7, .int .u32 0, .int .u32 0] 45)))
      have BB' := Lib.hid (BB.out.trans ((below_new a17 (.cells #[.int .i64 7, .int .u32 0, .int .u32 0] 45)).mono BB.out.size))
      clear B1
      have B1 := B1'
      clear B1'
      clear MM
      have MM := MM'
      clear MM'
      clear B5
      have B5 := B5'
      clear B5'
      clear B6
      have B6 := B6'
      clear B6'
      clear B8
      have B8 := B8'
      clear B8'
      clear B9
      have B9 := B9'
      clear B9'
      clear MN
      have MN := MN'
      clear MN'
      clear B11
      have B11 := B11'
      clear B11'
      clear B12
      have B12 := B12'
      clear B12'
      clear B14
      have B14 := B14'
      clear B14'
      clear B15
      have B15 := B15'
      clear B15'
      clear B17
      have B17 := B17'
      clear B17'
      clear BB
      have BB := BB'
      clear BB'
      have B18 := Lib.hid (Box.new a17 #[.int .i64 7, .int .u32 0, .int .u32 0] 45 (n := b17 + 1) hsz_b17.symm)
      have hsz_b18 : (World.alloc a17 (.cells #[.int .i64 7, .int .u32 0, .int .u32 0] 45)).heap.size = b17 + 1 + 1 := by simp [hsz_b17]
      rw [hsz_b17] at hlt_b18
      generalize World.alloc a17 (.cells #[.int .i64 7, .int .u32 0, .int .u32 0] 45) = a18 at *
      obtain ⟨b18, hq_b18⟩ : ∃ b, b17 + 1 = b := ⟨_, rfl⟩
      rw [hq_b18] at B18 hsz_b18 ⊢
      obtain ⟨BK, hBK⟩ : ∃ B, a18.heap.size = B := ⟨_, rfl⟩
      have KK : Hid (KP BK b1 b6 b9 b12 b15 b18 p2 q2 a18) := Lib.hid ⟨B1.out, B6.out, B9.out, B12.out, B15.out, B18.out, by have l1 := B1.out.lt; have l2 := B6.out.lt; have l3 := B9.out.lt; have l4 := B12.out.lt; have l5 := B15.out.lt; have l6 := B18.out.lt; omega, by omega⟩
      have hwB : w.heap.size ≤ BK := by have hs := BB.out.size; omega
      clear hBK B1 B5 B6 B8 B9 MN B11 B12 B14 B15 B17 B18
      go_cut [21, 22, 23] (fun s21 s22 s23 wx => ∃ b21, s21 = .pointer (some ⟨b21, 0, none⟩) ∧ s22 = .bool false ∧ s23 = .int .i64 0 ∧ Box wx b21 #[.int .i64 1, .int .u32 0, .int .u32 0] 45 ∧ KP BK b1 b6 b9 b12 b15 b18 p2 q2 wx ∧ Below w.heap.size w wx)
      case first =>
        generalize hQQ : Exit.then _ _ = QQ
        have hQP : ∀ c (a : Act) (n : Nat) v w, QQ (.panic c) (a.put (some n) v) w → QQ (.panic c) a w := by subst hQQ; exact fun _ _ _ _ _ h => h
        have tail : ∀ (L : Array Bool) (F : Nat) (A : Act) (b20 b21 : Nat) (p20 q20 : Option Addr) (Wz : World) (B20 : Hid (Box Wz b20 #[.slice none 0 0, .slice none 0 0] 31)) (B21 : Hid (Box Wz b21 #[.int .i64 0, .int .u32 0, .int .u32 0] 45)) (KK : Hid (KP BK b1 b6 b9 b12 b15 b18 p2 q2 Wz)) (BB : Hid (Below w.heap.size w Wz)) (t1 : BK ≤ b20) (t2 : BK ≤ b21) (t3 : b20 ≠ b21) (hL : L = #[true, true, true, true, true, true, true, true, true, true, true, false, false, false, false]) (hF : F = 4) (hA : A = ⟨#[Value.bool false, Value.pointer (some { block := b1, off := 0 }), Value.int IntKind.i64 0, Value.int IntKind.i64 0, Value.int IntKind.i64 0, Value.pointer (some { block := b5, off := 0 }), Value.pointer (some { block := b6, off := 0 }), Value.int IntKind.i64 0, Value.pointer (some { block := b8, off := 0 }), Value.pointer (some { block := b9, off := 0 }), Value.int IntKind.i64 0, Value.pointer (some { block := b11, off := 0 }), Value.pointer (some { block := b12, off := 0 }), Value.int IntKind.i64 0, Value.pointer (some { block := b14, off := 0 }), Value.pointer (some { block := b15, off := 0 }), Value.int IntKind.i64 0, Value.pointer (some { block := b17, off := 0 }), Value.pointer (some { block := b18, off := 0 }), Value.int IntKind.i64 0, Value.pointer (some ⟨b20, 0, none⟩), Value.pointer (some ⟨b21, 0, none⟩), undef, undef, undef, undef, u26, u27, u28, u29, u30, u31, u32, u33, u34, u35, u36, u37, u38, u39, u40, u41, u42, u43, u44, Value.tuple #[Value.agg #[Value.slice p2 2 2, Value.slice q5 2 2], Value.agg #[Value.int IntKind.i64 0, Value.int IntKind.u32 0, Value.int IntKind.u32 0], Value.int IntKind.i64 0], Value.agg #[Value.slice p2 2 2, Value.slice q2 2 2], Value.tuple #[Value.agg #[Value.slice p2 2 2, Value.slice q5 2 2], Value.agg #[Value.int IntKind.i64 0, Value.int IntKind.u32 0, Value.int IntKind.u32 0], Value.int IntKind.i64 0], Value.agg #[Value.slice p2 2 2, Value.slice q5 2 2], Value.agg #[Value.int IntKind.i64 0, Value.int IntKind.u32 0, Value.int IntKind.u32 0], Value.int IntKind.i64 0, Value.tuple #[Value.agg #[Value.slice p2 2 2, Value.slice q8 2 2], Value.agg #[Value.int IntKind.i64 7, Value.int IntKind.u32 0, Value.int IntKind.u32 0], Value.int IntKind.i64 0], Value.agg #[Value.slice p2 2 2, Value.slice q2 2 2], Value.tuple #[Value.agg #[Value.slice p2 2 2, Value.slice q8 2 2], Value.agg #[Value.int IntKind.i64 7, Value.int IntKind.u32 0, Value.int IntKind.u32 0], Value.int IntKind.i64 0], Value.agg #[Value.slice p2 2 2, Value.slice q8 2 2], Value.agg #[Value.int IntKind.i64 7, Value.int IntKind.u32 0, Value.int IntKind.u32 0], Value.int IntKind.i64 0, Value.tuple #[Value.agg #[Value.slice p2 2 2, Value.slice q11 2 2], Value.agg #[Value.int IntKind.i64 1, Value.int IntKind.u32 0, Value.int IntKind.u32 0], Value.int IntKind.i64 0], Value.agg #[Value.slice p2 2 2, Value.slice q2 2 2], Value.tuple #[Value.agg #[Value.slice p2 2 2, Value.slice q11 2 2], Value.agg #[Value.int IntKind.i64 1, Value.int IntKind.u32 0, Value.int IntKind.u32 0], Value.int IntKind.i64 0], Value.agg #[Value.slice p2 2 2, Value.slice q11 2 2], Value.agg #[Value.int IntKind.i64 1, Value.int IntKind.u32 0, Value.int IntKind.u32 0], Value.int IntKind.i64 0, Value.tuple #[Value.agg #[Value.slice p2 2 2, Value.slice q14 2 2], Value.agg #[Value.int IntKind.i64 7, Value.int IntKind.u32 0, Value.int IntKind.u32 0], Value.int IntKind.i64 0], Value.agg #[Value.slice p2 2 2, Value.slice q11 2 2], Value.tuple #[Value.agg #[Value.slice p2 2 2, Value.slice q14 2 2], Value.agg #[Value.int IntKind.i64 7, Value.int IntKind.u32 0, Value.int IntKind.u32 0], Value.int IntKind.i64 0], Value.agg #[Value.slice p2 2 2, Value.slice q14 2 2], Value.agg #[Value.int IntKind.i64 7, Value.int IntKind.u32 0, Value.int IntKind.u32 0], Value.int IntKind.i64 0, Value.tuple #[Value.agg #[Value.slice p2 2 2, Value.slice q17 2 2], Value.agg #[Value.int IntKind.i64 7, Value.int IntKind.u32 0, Value.int IntKind.u32 0], Value.int IntKind.i64 0], Value.agg #[Value.slice p2 2 2, Value.slice q11 2 2], Value.tuple #[Value.agg #[Value.slice p2 2 2, Value.slice q17 2 2], Value.agg #[Value.int IntKind.i64 7, Value.int IntKind.u32 0, Value.int IntKind.u32 0], Value.int IntKind.i64 0], Value.agg #[Value.slice p2 2 2, Value.slice q17 2 2], Value.agg #[Value.int IntKind.i64 7, Value.int IntKind.u32 0, Value.int IntKind.u32 0], Value.int IntKind.i64 0, Value.tuple #[.agg #[.slice p20 2 2, .slice q20 2 2], .agg #[.int .i64 1, .int .u32 0, .int .u32 0], .bool false, .int .i64 0], Value.agg #[.slice p2 2 2, .slice q2 2 2], Value.agg #[.int .i64 0, .int .u32 0, .int .u32 0], Value.agg #[.int .i64 5, .int .u32 0, .int .u32 0], Value.tuple #[.agg #[.slice p20 2 2, .slice q20 2 2], .agg #[.int .i64 1, .int .u32 0, .int .u32 0], .bool false, .int .i64 0], Value.agg #[.slice p20 2 2, .slice q20 2 2], Value.agg #[.int .i64 1, .int .u32 0, .int .u32 0], Value.bool false, Value.int .i64 0, u84, u85, u86, u87, u88, u89, u90, u91, u92, u93, u94, u95, u96, u97, u98, u99, u100, u101, u102, u103, u104, u105, u106, u107, u108, u109, u110, u111, u112, u113, u114, u115, u116, u117, u118, u119, u120, u121, u122, u123, u124, u125, u126, u127, u128, u129, u130, u131, u132, u133, u134, u135, u136, u137, u138, u139, u140, u141, u142, u143, u144, u145, u146, u147, u148, u149, u150, u151, u152], []⟩), wpAnyH Try.prog .any #[{ dst := some 76, op := Op.load 31 (Operand.tmp 1), type := 31, pos := "law.go:37", after := #[], guard := none }, { dst := some 77, op := Op.call { callee := Callee.value (Operand.func 29), args := #[Operand.const (Value.int IntKind.i64 0)], argTypes := #[2] }, type := 45, pos := "law.go:37", after := #[], guard := none }, { dst := some 78, op := Op.call { callee := Callee.value (Operand.func 29), args := #[Operand.const (Value.int IntKind.i64 5)], argTypes := #[2] }, type := 45, pos := "law.go:37", after := #[{ on := 1, ground := Ground.chain }], guard := none }, { dst := some 79, op := Op.call { callee := Callee.value (Operand.func 28), args := #[Operand.tmp 76, Operand.const (Value.int IntKind.i64 2), Operand.const (Value.int IntKind.i64 1), Operand.tmp 77, Operand.tmp 78], argTypes := #[31, 3, 42, 45, 45] }, type := 50, pos := "law.go:37", after := #[{ on := 0, ground := Ground.data }, { on := 1, ground := Ground.data }, { on := 2, ground := Ground.data }, { on := 2, ground := Ground.chain }], guard := none }, { dst := some 75, op := Op.move (Operand.tmp 79), type := 50, pos := "law.go:37", after := #[{ on := 3, ground := Ground.data }], guard := none }, { dst := some 80, op := Op.extract (Operand.tmp 75) 0, type := 31, pos := "law.go:37", after := #[{ on := 4, ground := Ground.data }], guard := none }, { dst := some 81, op := Op.extract (Operand.tmp 75) 1, type := 45, pos := "law.go:37", after := #[{ on := 4, ground := Ground.data }, { on := 11, ground := Ground.gcOnly Departure.lateStores }], guard := none }, { dst := some 82, op := Op.extract (Operand.tmp 75) 2, type := 4, pos := "law.go:37", after := #[{ on := 4, ground := Ground.data }, { on := 12, ground := Ground.gcOnly Departure.lateStores }], guard := none }, { dst := some 83, op := Op.extract (Operand.tmp 75) 3, type := 32, pos := "law.go:37", after := #[{ on := 4, ground := Ground.data }, { on := 13, ground := Ground.gcOnly Departure.lateStores }], guard := none }, { dst := some 20, op := Op.alloc 31, type := 0, pos := "law.go:37", after := #[], guard := none }, { dst := some 21, op := Op.alloc 45, type := 0, pos := "law.go:37", after := #[], guard := none }, { dst := none, op := Op.store 31 (Operand.tmp 20) (Operand.tmp 80), type := 0, pos := "law.go:37", after := #[{ on := 9, ground := Ground.data }, { on := 5, ground := Ground.data }, { on := 3, ground := Ground.chain }, { on := 0, ground := Ground.phase }, { on := 1, ground := Ground.phase }, { on := 2, ground := Ground.phase }, { on := 3, ground := Ground.phase }, { on := 4, ground := Ground.phase }, { on := 5, ground := Ground.phase }, { on := 6, ground := Ground.textOnly Departure.lateStores }, { on := 7, ground := Ground.textOnly Departure.lateStores }, { on := 8, ground := Ground.textOnly Departure.lateStores }, { on := 9, ground := Ground.phase }, { on := 10, ground := Ground.phase }], guard := none }, { dst := none, op := Op.store 45 (Operand.tmp 21) (Operand.tmp 81), type := 0, pos := "law.go:37", after := #[{ on := 10, ground := Ground.data }, { on := 6, ground := Ground.data }, { on := 11, ground := Ground.chain }, { on := 0, ground := Ground.phase }, { on := 1, ground := Ground.phase }, { on := 2, ground := Ground.phase }, { on := 3, ground := Ground.phase }, { on := 4, ground := Ground.phase }, { on := 5, ground := Ground.phase }, { on := 6, ground := Ground.phase }, { on := 7, ground := Ground.textOnly Departure.lateStores }, { on := 8, ground := Ground.textOnly Departure.lateStores }, { on := 9, ground := Ground.phase }, { on := 10, ground := Ground.phase }, { on := 11, ground := Ground.phase }], guard := none }, { dst := some 22, op := Op.assign (Operand.tmp 82), type := 4, pos := "law.go:37", after := #[{ on := 7, ground := Ground.data }, { on := 12, ground := Ground.chain }, { on := 0, ground := Ground.phase }, { on := 1, ground := Ground.phase }, { on := 2, ground := Ground.phase }, { on := 3, ground := Ground.phase }, { on := 4, ground := Ground.phase }, { on := 5, ground := Ground.phase }, { on := 6, ground := Ground.phase }, { on := 7, ground := Ground.phase }, { on := 8, ground := Ground.textOnly Departure.lateStores }, { on := 9, ground := Ground.phase }, { on := 10, ground := Ground.phase }, { on := 11, ground := Ground.phase }, { on := 12, ground := Ground.phase }], guard := none }, { dst := some 23, op := Op.assign (Operand.tmp 83), type := 32, pos := "law.go:37", after := #[{ on := 8, ground := Ground.data }, { on := 13, ground := Ground.chain }, { on := 0, ground := Ground.phase }, { on := 1, ground := Ground.phase }, { on := 2, ground := Ground.phase }, { on := 3, ground := Ground.phase }, { on := 4, ground := Ground.phase }, { on := 5, ground := Ground.phase }, { on := 6, ground := Ground.phase }, { on := 7, ground := Ground.phase }, { on := 8, ground := Ground.phase }, { on := 9, ground := Ground.phase }, { on := 10, ground := Ground.phase }, { on := 11, ground := Ground.phase }, { on := 12, ground := Ground.phase }, { on := 13, ground := Ground.phase }], guard := none }] QQ (fun w' => w'.cell? ⟨b1, 0, none⟩ = some (.slice p2 2 2) ∧ w'.cell? ⟨b1, 1, none⟩ = some (.slice q2 2 2)) F L A Wz := by
          clear KK MM BB
          intro L F A b20 b21 p20 q20 Wz B20 B21 KK BB t1 t2 t3 hL hF hA
          dsimp only at hA
          subst hL hF hA
          have hHeld : Wz.cell? ⟨b1, 0, none⟩ = some (.slice p2 2 2) ∧ Wz.cell? ⟨b1, 1, none⟩ = some (.slice q2 2 2) := ⟨KK.out.x1.cells2.1.1, KK.out.x1.cells2.1.2⟩
          refine wpAnyH_ready (rs := [11]) (by kernel_rfl) (by simp) ?_
          refine AllReadyH.cons (o := { dst := none, op := Op.store 31 (Operand.tmp 20) (Operand.tmp 80), type := 0, pos := "law.go:37", after := #[{ on := 9, ground := Ground.data }, { on := 5, ground := Ground.data }, { on := 3, ground := Ground.chain }, { on := 0, ground := Ground.phase }, { on := 1, ground := Ground.phase }, { on := 2, ground := Ground.phase }, { on := 3, ground := Ground.phase }, { on := 4, ground := Ground.phase }, { on := 5, ground := Ground.phase }, { on := 6, ground := Ground.textOnly Departure.lateStores }, { on := 7, ground := Ground.textOnly Departure.lateStores }, { on := 8, ground := Ground.textOnly Departure.lateStores }, { on := 9, ground := Ground.phase }, { on := 10, ground := Ground.phase }], guard := none }) rfl (fun K hK => ?_) AllReadyH.nil
          obtain ⟨⟨m0, m1⟩, g0, g1⟩ := B20.out.cells2
          go_simp
          clear m0 g0 m1 g1
          have KK' := Lib.hid (KK.out.only (by omega) (((Only.refl b20 Wz).set 0 (.slice p20 2 2)).set 1 (.slice q20 2 2)))
          have B20' := Lib.hid (((B20.out).set 0 (.slice p20 2 2)).set 1 (.slice q20 2 2))
          have B21' := Lib.hid (B21.out.only (by omega) (((Only.refl b20 Wz).set 0 (.slice p20 2 2)).set 1 (.slice q20 2 2)))
          have BB' := Lib.hid (((BB.out).put b20 (by omega) 0 (.slice p20 2 2)).put b20 (by omega) 1 (.slice q20 2 2))
          clear KK
          have KK := KK'
          clear KK'
          clear B20
          have B20 := B20'
          clear B20'
          clear B21
          have B21 := B21'
          clear B21'
          clear BB
          have BB := BB'
          clear BB'
          generalize (World.setCell (World.setCell Wz ⟨b20, 0, none⟩ (.slice p20 2 2)) ⟨b20, 1, none⟩ (.slice q20 2 2)) = v15 at *
          refine hK.out _ _ ?_ (fun hHeld => ?_)
          · exact ⟨KK.out.x1.cells2.1.1, KK.out.x1.cells2.1.2⟩
          clear hK K
          (try simp only [Act.put])
          (try simp only [List.setIfInBounds_toArray])
          (try simp only [List.set_cons_succ])
          (try simp only [List.set_cons_zero])
          refine wpAnyH_ready (rs := [12]) (by kernel_rfl) (by simp) ?_
          refine AllReadyH.cons (o := { dst := none, op := Op.store 45 (Operand.tmp 21) (Operand.tmp 81), type := 0, pos := "law.go:37", after := #[{ on := 10, ground := Ground.data }, { on := 6, ground := Ground.data }, { on := 11, ground := Ground.chain }, { on := 0, ground := Ground.phase }, { on := 1, ground := Ground.phase }, { on := 2, ground := Ground.phase }, { on := 3, ground := Ground.phase }, { on := 4, ground := Ground.phase }, { on := 5, ground := Ground.phase }, { on := 6, ground := Ground.phase }, { on := 7, ground := Ground.textOnly Departure.lateStores }, { on := 8, ground := Ground.textOnly Departure.lateStores }, { on := 9, ground := Ground.phase }, { on := 10, ground := Ground.phase }, { on := 11, ground := Ground.phase }], guard := none }) rfl (fun K hK => ?_) AllReadyH.nil
          obtain ⟨⟨m0, m1, m2⟩, g0, g1, g2⟩ := B21.out.cells3
          go_simp
          clear m0 g0 m1 g1 m2 g2
          have KK' := Lib.hid (KK.out.only (by omega) ((((Only.refl b21 v15).set 0 (.int .i64 1)).set 1 (.int .u32 0)).set 2 (.int .u32 0)))
          have B20' := Lib.hid (B20.out.only (by omega) ((((Only.refl b21 v15).set 0 (.int .i64 1)).set 1 (.int .u32 0)).set 2 (.int .u32 0)))
          have B21' := Lib.hid ((((B21.out).set 0 (.int .i64 1)).set 1 (.int .u32 0)).set 2 (.int .u32 0))
          have BB' := Lib.hid ((((BB.out).put b21 (by omega) 0 (.int .i64 1)).put b21 (by omega) 1 (.int .u32 0)).put b21 (by omega) 2 (.int .u32 0))
          clear KK
          have KK := KK'
          clear KK'
          clear B20
          have B20 := B20'
          clear B20'
          clear B21
          have B21 := B21'
          clear B21'
          clear BB
          have BB := BB'
          clear BB'
          generalize (World.setCell (World.setCell (World.setCell v15 ⟨b21, 0, none⟩ (.int .i64 1)) ⟨b21, 1, none⟩ (.int .u32 0)) ⟨b21, 2, none⟩ (.int .u32 0)) = v16 at *
          refine hK.out _ _ ?_ (fun hHeld => ?_)
          · exact ⟨KK.out.x1.cells2.1.1, KK.out.x1.cells2.1.2⟩
          clear hK K
          (try simp only [Act.put])
          (try simp only [List.setIfInBounds_toArray])
          (try simp only [List.set_cons_succ])
          (try simp only [List.set_cons_zero])
          refine wpAnyH_ready (rs := [13]) (by kernel_rfl) (by simp) ?_
          refine AllReadyH.cons (o := { dst := some 22, op := Op.assign (Operand.tmp 82), type := 4, pos := "law.go:37", after := #[{ on := 7, ground := Ground.data }, { on := 12, ground := Ground.chain }, { on := 0, ground := Ground.phase }, { on := 1, ground := Ground.phase }, { on := 2, ground := Ground.phase }, { on := 3, ground := Ground.phase }, { on := 4, ground := Ground.phase }, { on := 5, ground := Ground.phase }, { on := 6, ground := Ground.phase }, { on := 7, ground := Ground.phase }, { on := 8, ground := Ground.textOnly Departure.lateStores }, { on := 9, ground := Ground.phase }, { on := 10, ground := Ground.phase }, { on := 11, ground := Ground.phase }, { on := 12, ground := Ground.phase }], guard := none }) rfl (fun K hK => ?_) AllReadyH.nil
          go_simp
          refine hK.out _ _ ?_ (fun hHeld => ?_)
          · exact ⟨KK.out.x1.cells2.1.1, KK.out.x1.cells2.1.2⟩
          clear hK K
          (try simp only [Act.put])
          (try simp only [List.setIfInBounds_toArray])
          (try simp only [List.set_cons_succ])
          (try simp only [List.set_cons_zero])
          refine wpAnyH_ready (rs := [14]) (by kernel_rfl) (by simp) ?_
          refine AllReadyH.cons (o := { dst := some 23, op := Op.assign (Operand.tmp 83), type := 32, pos := "law.go:37", after := #[{ on := 8, ground := Ground.data }, { on := 13, ground := Ground.chain }, { on := 0, ground := Ground.phase }, { on := 1, ground := Ground.phase }, { on := 2, ground := Ground.phase }, { on := 3, ground := Ground.phase }, { on := 4, ground := Ground.phase }, { on := 5, ground := Ground.phase }, { on := 6, ground := Ground.phase }, { on := 7, ground := Ground.phase }, { on := 8, ground := Ground.phase }, { on := 9, ground := Ground.phase }, { on := 10, ground := Ground.phase }, { on := 11, ground := Ground.phase }, { on := 12, ground := Ground.phase }, { on := 13, ground := Ground.phase }], guard := none }) rfl (fun K hK => ?_) AllReadyH.nil
          go_simp
          refine hK.out _ _ ?_ (fun hHeld => ?_)
          · exact ⟨KK.out.x1.cells2.1.1, KK.out.x1.cells2.1.2⟩
          clear hK K
          (try simp only [Act.put])
          (try simp only [List.setIfInBounds_toArray])
          (try simp only [List.set_cons_succ])
          (try simp only [List.set_cons_zero])
          refine wpAnyH_done (by kernel_rfl) ?_ _
          subst hQQ
          go_wp2
          go_meet
          case rel => exact ⟨b21, rfl, rfl, rfl, B21.out, KK.out, BB.out⟩
        have TL := Lib.hid tail
        clear tail
        have KK' := Lib.hid (KK.out.below ((Below.refl _ _).drew))
        have MM' := Lib.hid (MM.out.below ((Below.refl _ _).drew))
        have BB' := Lib.hid (BB.out.trans (((Below.refl _ _).drew).mono BB.out.size))
        clear KK
        have KK := KK'
        clear KK'
        clear MM
        have MM := MM'
        clear MM'
        clear BB
        have BB := BB'
        clear BB'
        refine wp_region_held_drew (S := fun w' => w'.cell? ⟨b1, 0, none⟩ = some (.slice p2 2 2) ∧ w'.cell? ⟨b1, 1, none⟩ = some (.slice q2 2 2)) (by kernel_rfl) ⟨KK.out.x1.cells2.1.1, KK.out.x1.cells2.1.2⟩ (fun hHeld => ?_)
        generalize World.drew a18 = V17 at *
        refine wpAnyH_take (i := 0) (oi := { dst := some 76, op := Op.load 31 (Operand.tmp 1), type := 31, pos := "law.go:37", after := #[], guard := none }) (v := ?d18_1xv0) rfl (by kernel_rfl) (by kernel_rfl) (by kernel_rfl) (fun _ _ _ h => hQP _ _ _ _ _ h) (Or.inl ⟨by rfl, ?d18_1xy0⟩) (by assumption) ?d18_1xr0
        case d18_1xy0 => (intro w hSw; (try dsimp only at hSw); go_simp; try with_reducible rfl)
        (try simp only [Act.put])
        (try simp only [List.setIfInBounds_toArray])
        (try simp only [List.set_cons_succ])
        (try simp only [List.set_cons_zero])
        refine wpAnyH_ready (rs := [1, 9, 10]) (by kernel_rfl) (by simp) ?_
        refine AllReadyH.cons (o := { dst := some 77, op := Op.call { callee := Callee.value (Operand.func 29), args := #[Operand.const (Value.int IntKind.i64 0)], argTypes := #[2] }, type := 45, pos := "law.go:37", after := #[], guard := none }) rfl (fun K hK => ?_) ?_
        · skip
          go_simp
          go_at_call 29
          refine (word_any 0 _).mono ?_
          rintro e v18 ⟨rfl, hb⟩
          have KK' := Lib.hid (KK.out.below (hb))
          have MM' := Lib.hid (MM.out.below (hb))
          have BB' := Lib.hid (BB.out.trans ((hb).mono BB.out.size))
          clear KK
          have KK := KK'
          clear KK'
          clear MM
          have MM := MM'
          clear MM'
          clear BB
          have BB := BB'
          clear BB'
          clear hb
          go_simp
          refine hK.out _ _ ?_ (fun hHeld => ?_)
          · exact ⟨KK.out.x1.cells2.1.1, KK.out.x1.cells2.1.2⟩
          clear hK K
          (try simp only [Act.put])
          (try simp only [List.setIfInBounds_toArray])
          (try simp only [List.set_cons_succ])
          (try simp only [List.set_cons_zero])
          refine wpAnyH_ready (rs := [2, 9, 10]) (by kernel_rfl) (by simp) ?_
          refine AllReadyH.cons (o := { dst := some 78, op := Op.call { callee := Callee.value (Operand.func 29), args := #[Operand.const (Value.int IntKind.i64 5)], argTypes := #[2] }, type := 45, pos := "law.go:37", after := #[{ on := 1, ground := Ground.chain }], guard := none }) rfl (fun K hK => ?_) ?_
          · skip
            go_simp
            go_at_call 29
            refine (word_any 5 _).mono ?_
            rintro e v19 ⟨rfl, hb⟩
            have KK' := Lib.hid (KK.out.below (hb))
            have MM' := Lib.hid (MM.out.below (hb))
            have BB' := Lib.hid (BB.out.trans ((hb).mono BB.out.size))
            clear KK
            have KK := KK'
            clear KK'
            clear MM
            have MM := MM'
            clear MM'
            clear BB
            have BB := BB'
            clear BB'
            clear hb
            go_simp
            refine hK.out _ _ ?_ (fun hHeld => ?_)
            · exact ⟨KK.out.x1.cells2.1.1, KK.out.x1.cells2.1.2⟩
            clear hK K
            (try simp only [Act.put])
            (try simp only [List.setIfInBounds_toArray])
            (try simp only [List.set_cons_succ])
            (try simp only [List.set_cons_zero])
            refine wpAnyH_ready (rs := [3, 9, 10]) (by kernel_rfl) (by simp) ?_
            refine AllReadyH.cons (o := { dst := some 79, op := Op.call { callee := Callee.value (Operand.func 28), args := #[Operand.tmp 76, Operand.const (Value.int IntKind.i64 2), Operand.const (Value.int IntKind.i64 1), Operand.tmp 77, Operand.tmp 78], argTypes := #[31, 3, 42, 45, 45] }, type := 50, pos := "law.go:37", after := #[{ on := 0, ground := Ground.data }, { on := 1, ground := Ground.data }, { on := 2, ground := Ground.data }, { on := 2, ground := Ground.chain }], guard := none }) rfl (fun K hK => ?_) ?_
            · skip
              go_simp
              go_at_call 28
              refine (swap_miss _ _ A2 3 1 1 0 0 0 5 0 0 _ _ MM.out good2 (by omega) (by rw [n2.2]; omega) (by rw [n2.1]; omega) sw9).mono ?_
              rintro e v20 ⟨pv, vv, rfl, hm, hb⟩
              have KK' := Lib.hid (KK.out.below (hb))
              have MM' := Lib.hid (MM.out.below (hb))
              have BB' := Lib.hid (BB.out.trans ((hb).mono BB.out.size))
              clear KK
              have KK := KK'
              clear KK'
              clear MM
              have MM := MM'
              clear MM'
              clear BB
              have BB := BB'
              clear BB'
              clear hb
              clear MM
              obtain ⟨p20, q20, e1, e2⟩ := sl9 hm
              subst e1 e2
              clear hm
              rw [l2, w3]
              go_simp
              refine hK.out _ _ ?_ (fun hHeld => ?_)
              · exact ⟨KK.out.x1.cells2.1.1, KK.out.x1.cells2.1.2⟩
              clear hK K
              (try simp only [Act.put])
              (try simp only [List.setIfInBounds_toArray])
              (try simp only [List.set_cons_succ])
              (try simp only [List.set_cons_zero])
              refine wpAnyH_take (i := 4) (oi := { dst := some 75, op := Op.move (Operand.tmp 79), type := 50, pos := "law.go:37", after := #[{ on := 3, ground := Ground.data }], guard := none }) (v := ?d21_2xv4) rfl (by kernel_rfl) (by kernel_rfl) (by kernel_rfl) (fun _ _ _ h => hQP _ _ _ _ _ h) (Or.inl ⟨by rfl, ?d21_2xy4⟩) (by assumption) ?d21_2xr4
              case d21_2xy4 => (intro w hSw; (try dsimp only at hSw); go_simp; try with_reducible rfl)
              (try simp only [Act.put])
              (try simp only [List.setIfInBounds_toArray])
              (try simp only [List.set_cons_succ])
              (try simp only [List.set_cons_zero])
              refine wpAnyH_take (i := 5) (oi := { dst := some 80, op := Op.extract (Operand.tmp 75) 0, type := 31, pos := "law.go:37", after := #[{ on := 4, ground := Ground.data }], guard := none }) (v := ?d21_3xv5) rfl (by kernel_rfl) (by kernel_rfl) (by kernel_rfl) (fun _ _ _ h => hQP _ _ _ _ _ h) (Or.inl ⟨by rfl, ?d21_3xy5⟩) (by assumption) ?d21_3xr5
              case d21_3xy5 => (intro w hSw; (try dsimp only at hSw); go_simp; try with_reducible rfl)
              (try simp only [Act.put])
              (try simp only [List.setIfInBounds_toArray])
              (try simp only [List.set_cons_succ])
              (try simp only [List.set_cons_zero])
              refine wpAnyH_take (i := 6) (oi := { dst := some 81, op := Op.extract (Operand.tmp 75) 1, type := 45, pos := "law.go:37", after := #[{ on := 4, ground := Ground.data }, { on := 11, ground := Ground.gcOnly Departure.lateStores }], guard := none }) (v := ?d21_4xv6) rfl (by kernel_rfl) (by kernel_rfl) (by kernel_rfl) (fun _ _ _ h => hQP _ _ _ _ _ h) (Or.inl ⟨by rfl, ?d21_4xy6⟩) (by assumption) ?d21_4xr6
              case d21_4xy6 => (intro w hSw; (try dsimp only at hSw); go_simp; try with_reducible rfl)
              (try simp only [Act.put])
              (try simp only [List.setIfInBounds_toArray])
              (try simp only [List.set_cons_succ])
              (try simp only [List.set_cons_zero])
              refine wpAnyH_take (i := 7) (oi := { dst := some 82, op := Op.extract (Operand.tmp 75) 2, type := 4, pos := "law.go:37", after := #[{ on := 4, ground := Ground.data }, { on := 12, ground := Ground.gcOnly Departure.lateStores }], guard := none }) (v := ?d21_5xv7) rfl (by kernel_rfl) (by kernel_rfl) (by kernel_rfl) (fun _ _ _ h => hQP _ _ _ _ _ h) (Or.inl ⟨by rfl, ?d21_5xy7⟩) (by assumption) ?d21_5xr7
              case d21_5xy7 => (intro w hSw; (try dsimp only at hSw); go_simp; try with_reducible rfl)
              (try simp only [Act.put])
              (try simp only [List.setIfInBounds_toArray])
              (try simp only [List.set_cons_succ])
              (try simp only [List.set_cons_zero])
              refine wpAnyH_take (i := 8) (oi := { dst := some 83, op := Op.extract (Operand.tmp 75) 3, type := 32, pos := "law.go:37", after := #[{ on := 4, ground := Ground.data }, { on := 13, ground := Ground.gcOnly Departure.lateStores }], guard := none }) (v := ?d21_6xv8) rfl (by kernel_rfl) (by kernel_rfl) (by kernel_rfl) (fun _ _ _ h => hQP _ _ _ _ _ h) (Or.inl ⟨by rfl, ?d21_6xy8⟩) (by assumption) ?d21_6xr8
              case d21_6xy8 => (intro w hSw; (try dsimp only at hSw); go_simp; try with_reducible rfl)
              (try simp only [Act.put])
              (try simp only [List.setIfInBounds_toArray])
              (try simp only [List.set_cons_succ])
              (try simp only [List.set_cons_zero])
              refine wpAnyH_ready (rs := [9, 10]) (by kernel_rfl) (by simp) ?_
              refine AllReadyH.cons (o := { dst := some 20, op := Op.alloc 31, type := 0, pos := "law.go:37", after := #[], guard := none }) rfl (fun K hK => ?_) ?_
              · skip
                go_simp
                have hlt_b20 := BB.out.size
                have hle_b20_KK := KK.out.le
                have KK' := Lib.hid (KK.out.below (below_new v20 (.cells #[.slice none 0 0, .slice none 0 0] 31)))
                have BB' := Lib.hid (BB.out.trans ((below_new v20 (.cells #[.slice none 0 0, .slice none 0 0] 31)).mono BB.out.size))
                clear KK
                have KK := KK'
                clear KK'
                clear BB
                have BB := BB'
                clear BB'
                have B20 := Lib.hid (Box.new v20 #[.slice none 0 0, .slice none 0 0] 31 rfl)
                generalize World.alloc v20 (.cells #[.slice none 0 0, .slice none 0 0] 31) = v21 at *
                generalize World.heap v20 = hp_b20 at *
                generalize hp_b20.size = b20 at *
                refine hK.out _ _ ?_ (fun hHeld => ?_)
                · exact ⟨KK.out.x1.cells2.1.1, KK.out.x1.cells2.1.2⟩
                clear hK K
                (try simp only [Act.put])
                (try simp only [List.setIfInBounds_toArray])
                (try simp only [List.set_cons_succ])
                (try simp only [List.set_cons_zero])
                refine wpAnyH_ready (rs := [10]) (by kernel_rfl) (by simp) ?_
                refine AllReadyH.cons (o := { dst := some 21, op := Op.alloc 45, type := 0, pos := "law.go:37", after := #[], guard := none }) rfl (fun K hK => ?_) AllReadyH.nil
                go_simp
                have hlt_b21 := BB.out.size
                have hlt_b21_B20 := B20.out.lt
                have hle_b21_KK := KK.out.le
                have KK' := Lib.hid (KK.out.below (below_new v21 (.cells #[.int .i64 0, .int .u32 0, .int .u32 0] 45)))
                have B20' := Lib.hid (B20.out.below (below_new v21 (.cells #[.int .i64 0, .int .u32 0, .int .u32 0] 45)))
                have BB' := Lib.hid (BB.out.trans ((below_new v21 (.cells #[.int .i64 0, .int .u32 0, .int .u32 0] 45)).mono BB.out.size))
                clear KK
                have KK := KK'
                clear KK'
                clear B20
                have B20 := B20'
                clear B20'
                clear BB
                have BB := BB'
                clear BB'
                have B21 := Lib.hid (Box.new v21 #[.int .i64 0, .int .u32 0, .int .u32 0] 45 rfl)
                generalize World.alloc v21 (.cells #[.int .i64 0, .int .u32 0, .int .u32 0] 45) = v22 at *
                generalize World.heap v21 = hp_b21 at *
                generalize hp_b21.size = b21 at *
                refine hK.out _ _ ?_ (fun hHeld => ?_)
                · exact ⟨KK.out.x1.cells2.1.1, KK.out.x1.cells2.1.2⟩
                clear hK K
                (try simp only [Act.put])
                (try simp only [List.setIfInBounds_toArray])
                (try simp only [List.set_cons_succ])
                (try simp only [List.set_cons_zero])
                exact TL.out _ _ _ b20 b21 p20 q20 _ B20 B21 KK BB (by omega) (by omega) (by omega) (by kernel_rfl) (by rfl) (by rfl)
              refine AllReadyH.cons (o := { dst := some 21, op := Op.alloc 45, type := 0, pos := "law.go:37", after := #[], guard := none }) rfl (fun K hK => ?_) AllReadyH.nil
              go_simp
              have hlt_b21 := BB.out.size
              have hle_b21_KK := KK.out.le
              have KK' := Lib.hid (KK.out.below (below_new v20 (.cells #[.int .i64 0, .int .u32 0, .int .u32 0] 45)))
              have BB' := Lib.hid (BB.out.trans ((below_new v20 (.cells #[.int .i64 0, .int .u32 0, .int .u32 0] 45)).mono BB.out.size))
              clear KK
              have KK := KK'
              clear KK'
              clear BB
              have BB := BB'
              clear BB'
              have B21 := Lib.hid (Box.new v20 #[.int .i64 0, .int .u32 0, .int .u32 0] 45 rfl)
              generalize World.alloc v20 (.cells #[.int .i64 0, .int .u32 0, .int .u32 0] 45) = v23 at *
              generalize World.heap v20 = hp_b21 at *
              generalize hp_b21.size = b21 at *
              refine hK.out _ _ ?_ (fun hHeld => ?_)
              · exact ⟨KK.out.x1.cells2.1.1, KK.out.x1.cells2.1.2⟩
              clear hK K
              (try simp only [Act.put])
              (try simp only [List.setIfInBounds_toArray])
              (try simp only [List.set_cons_succ])
              (try simp only [List.set_cons_zero])
              refine wpAnyH_ready (rs := [9]) (by kernel_rfl) (by simp) ?_
              refine AllReadyH.cons (o := { dst := some 20, op := Op.alloc 31, type := 0, pos := "law.go:37", after := #[], guard := none }) rfl (fun K hK => ?_) AllReadyH.nil
              go_simp
              have hlt_b20 := BB.out.size
              have hlt_b20_B21 := B21.out.lt
              have hle_b20_KK := KK.out.le
              have KK' := Lib.hid (KK.out.below (below_new v23 (.cells #[.slice none 0 0, .slice none 0 0] 31)))
              have B21' := Lib.hid (B21.out.below (below_new v23 (.cells #[.slice none 0 0, .slice none 0 0] 31)))
              have BB' := Lib.hid (BB.out.trans ((below_new v23 (.cells #[.slice none 0 0, .slice none 0 0] 31)).mono BB.out.size))
              clear KK
              have KK := KK'
              clear KK'
              clear B21
              have B21 := B21'
              clear B21'
              clear BB
              have BB := BB'
              clear BB'
              have B20 := Lib.hid (Box.new v23 #[.slice none 0 0, .slice none 0 0] 31 rfl)
              generalize World.alloc v23 (.cells #[.slice none 0 0, .slice none 0 0] 31) = v24 at *
              generalize World.heap v23 = hp_b20 at *
              generalize hp_b20.size = b20 at *
              refine hK.out _ _ ?_ (fun hHeld => ?_)
              · exact ⟨KK.out.x1.cells2.1.1, KK.out.x1.cells2.1.2⟩
              clear hK K
              (try simp only [Act.put])
              (try simp only [List.setIfInBounds_toArray])
              (try simp only [List.set_cons_succ])
              (try simp only [List.set_cons_zero])
              exact TL.out _ _ _ b20 b21 p20 q20 _ B20 B21 KK BB (by omega) (by omega) (by omega) (by kernel_rfl) (by rfl) (by rfl)
            refine AllReadyH.cons (o := { dst := some 20, op := Op.alloc 31, type := 0, pos := "law.go:37", after := #[], guard := none }) rfl (fun K hK => ?_) ?_
            · skip
              go_simp
              have hlt_b20 := BB.out.size
              have hle_b20_KK := KK.out.le
              have KK' := Lib.hid (KK.out.below (below_new v19 (.cells #[.slice none 0 0, .slice none 0 0] 31)))
              have MM' := Lib.hid (MM.out.below (below_new v19 (.cells #[.slice none 0 0, .slice none 0 0] 31)))
              have BB' := Lib.hid (BB.out.trans ((below_new v19 (.cells #[.slice none 0 0, .slice none 0 0] 31)).mono BB.out.size))
              clear KK
              have KK := KK'
              clear KK'
              clear MM
              have MM := MM'
              clear MM'
              clear BB
              have BB := BB'
              clear BB'
              have B20 := Lib.hid (Box.new v19 #[.slice none 0 0, .slice none 0 0] 31 rfl)
              generalize World.alloc v19 (.cells #[.slice none 0 0, .slice none 0 0] 31) = v25 at *
              generalize World.heap v19 = hp_b20 at *
              generalize hp_b20.size = b20 at *
              refine hK.out _ _ ?_ (fun hHeld => ?_)
              · exact ⟨KK.out.x1.cells2.1.1, KK.out.x1.cells2.1.2⟩
              clear hK K
              (try simp only [Act.put])
              (try simp only [List.setIfInBounds_toArray])
              (try simp only [List.set_cons_succ])
              (try simp only [List.set_cons_zero])
              refine wpAnyH_ready (rs := [3, 10]) (by kernel_rfl) (by simp) ?_
              refine AllReadyH.cons (o := { dst := some 79, op := Op.call { callee := Callee.value (Operand.func 28), args := #[Operand.tmp 76, Operand.const (Value.int IntKind.i64 2), Operand.const (Value.int IntKind.i64 1), Operand.tmp 77, Operand.tmp 78], argTypes := #[31, 3, 42, 45, 45] }, type := 50, pos := "law.go:37", after := #[{ on := 0, ground := Ground.data }, { on := 1, ground := Ground.data }, { on := 2, ground := Ground.data }, { on := 2, ground := Ground.chain }], guard := none }) rfl (fun K hK => ?_) ?_
              · skip
                go_simp
                go_at_call 28
                refine (swap_miss _ _ A2 3 1 1 0 0 0 5 0 0 _ _ MM.out good2 (by omega) (by rw [n2.2]; omega) (by rw [n2.1]; omega) sw9).mono ?_
                rintro e v26 ⟨pv, vv, rfl, hm, hb⟩
                have KK' := Lib.hid (KK.out.below (hb))
                have MM' := Lib.hid (MM.out.below (hb))
                have B20' := Lib.hid (B20.out.below (hb))
                have BB' := Lib.hid (BB.out.trans ((hb).mono BB.out.size))
                clear KK
                have KK := KK'
                clear KK'
                clear MM
                have MM := MM'
                clear MM'
                clear B20
                have B20 := B20'
                clear B20'
                clear BB
                have BB := BB'
                clear BB'
                clear hb
                clear MM
                obtain ⟨p20, q20, e1, e2⟩ := sl9 hm
                subst e1 e2
                clear hm
                rw [l2, w3]
                go_simp
                refine hK.out _ _ ?_ (fun hHeld => ?_)
                · exact ⟨KK.out.x1.cells2.1.1, KK.out.x1.cells2.1.2⟩
                clear hK K
                (try simp only [Act.put])
                (try simp only [List.setIfInBounds_toArray])
                (try simp only [List.set_cons_succ])
                (try simp only [List.set_cons_zero])
                refine wpAnyH_take (i := 4) (oi := { dst := some 75, op := Op.move (Operand.tmp 79), type := 50, pos := "law.go:37", after := #[{ on := 3, ground := Ground.data }], guard := none }) (v := ?d27_7xv4) rfl (by kernel_rfl) (by kernel_rfl) (by kernel_rfl) (fun _ _ _ h => hQP _ _ _ _ _ h) (Or.inl ⟨by rfl, ?d27_7xy4⟩) (by assumption) ?d27_7xr4
                case d27_7xy4 => (intro w hSw; (try dsimp only at hSw); go_simp; try with_reducible rfl)
                (try simp only [Act.put])
                (try simp only [List.setIfInBounds_toArray])
                (try simp only [List.set_cons_succ])
                (try simp only [List.set_cons_zero])
                refine wpAnyH_take (i := 5) (oi := { dst := some 80, op := Op.extract (Operand.tmp 75) 0, type := 31, pos := "law.go:37", after := #[{ on := 4, ground := Ground.data }], guard := none }) (v := ?d27_8xv5) rfl (by kernel_rfl) (by kernel_rfl) (by kernel_rfl) (fun _ _ _ h => hQP _ _ _ _ _ h) (Or.inl ⟨by rfl, ?d27_8xy5⟩) (by assumption) ?d27_8xr5
                case d27_8xy5 => (intro w hSw; (try dsimp only at hSw); go_simp; try with_reducible rfl)
                (try simp only [Act.put])
                (try simp only [List.setIfInBounds_toArray])
                (try simp only [List.set_cons_succ])
                (try simp only [List.set_cons_zero])
                refine wpAnyH_take (i := 6) (oi := { dst := some 81, op := Op.extract (Operand.tmp 75) 1, type := 45, pos := "law.go:37", after := #[{ on := 4, ground := Ground.data }, { on := 11, ground := Ground.gcOnly Departure.lateStores }], guard := none }) (v := ?d27_9xv6) rfl (by kernel_rfl) (by kernel_rfl) (by kernel_rfl) (fun _ _ _ h => hQP _ _ _ _ _ h) (Or.inl ⟨by rfl, ?d27_9xy6⟩) (by assumption) ?d27_9xr6
                case d27_9xy6 => (intro w hSw; (try dsimp only at hSw); go_simp; try with_reducible rfl)
                (try simp only [Act.put])
                (try simp only [List.setIfInBounds_toArray])
                (try simp only [List.set_cons_succ])
                (try simp only [List.set_cons_zero])
                refine wpAnyH_take (i := 7) (oi := { dst := some 82, op := Op.extract (Operand.tmp 75) 2, type := 4, pos := "law.go:37", after := #[{ on := 4, ground := Ground.data }, { on := 12, ground := Ground.gcOnly Departure.lateStores }], guard := none }) (v := ?d27_10xv7) rfl (by kernel_rfl) (by kernel_rfl) (by kernel_rfl) (fun _ _ _ h => hQP _ _ _ _ _ h) (Or.inl ⟨by rfl, ?d27_10xy7⟩) (by assumption) ?d27_10xr7
                case d27_10xy7 => (intro w hSw; (try dsimp only at hSw); go_simp; try with_reducible rfl)
                (try simp only [Act.put])
                (try simp only [List.setIfInBounds_toArray])
                (try simp only [List.set_cons_succ])
                (try simp only [List.set_cons_zero])
                refine wpAnyH_take (i := 8) (oi := { dst := some 83, op := Op.extract (Operand.tmp 75) 3, type := 32, pos := "law.go:37", after := #[{ on := 4, ground := Ground.data }, { on := 13, ground := Ground.gcOnly Departure.lateStores }], guard := none }) (v := ?d27_11xv8) rfl (by kernel_rfl) (by kernel_rfl) (by kernel_rfl) (fun _ _ _ h => hQP _ _ _ _ _ h) (Or.inl ⟨by rfl, ?d27_11xy8⟩) (by assumption) ?d27_11xr8
                case d27_11xy8 => (intro w hSw; (try dsimp only at hSw); go_simp; try with_reducible rfl)
                (try simp only [Act.put])
                (try simp only [List.setIfInBounds_toArray])
                (try simp only [List.set_cons_succ])
                (try simp only [List.set_cons_zero])
                refine wpAnyH_ready (rs := [10]) (by kernel_rfl) (by simp) ?_
                refine AllReadyH.cons (o := { dst := some 21, op := Op.alloc 45, type := 0, pos := "law.go:37", after := #[], guard := none }) rfl (fun K hK => ?_) AllReadyH.nil
                go_simp
                have hlt_b21 := BB.out.size
                have hlt_b21_B20 := B20.out.lt
                have hle_b21_KK := KK.out.le
                have KK' := Lib.hid (KK.out.below (below_new v26 (.cells #[.int .i64 0, .int .u32 0, .int .u32 0] 45)))
                have B20' := Lib.hid (B20.out.below (below_new v26 (.cells #[.int .i64 0, .int .u32 0, .int .u32 0] 45)))
                have BB' := Lib.hid (BB.out.trans ((below_new v26 (.cells #[.int .i64 0, .int .u32 0, .int .u32 0] 45)).mono BB.out.size))
                clear KK
                have KK := KK'
                clear KK'
                clear B20
                have B20 := B20'
                clear B20'
                clear BB
                have BB := BB'
                clear BB'
                have B21 := Lib.hid (Box.new v26 #[.int .i64 0, .int .u32 0, .int .u32 0] 45 rfl)
                generalize World.alloc v26 (.cells #[.int .i64 0, .int .u32 0, .int .u32 0] 45) = v27 at *
                generalize World.heap v26 = hp_b21 at *
                generalize hp_b21.size = b21 at *
                refine hK.out _ _ ?_ (fun hHeld => ?_)
                · exact ⟨KK.out.x1.cells2.1.1, KK.out.x1.cells2.1.2⟩
                clear hK K
                (try simp only [Act.put])
                (try simp only [List.setIfInBounds_toArray])
                (try simp only [List.set_cons_succ])
                (try simp only [List.set_cons_zero])
                exact TL.out _ _ _ b20 b21 p20 q20 _ B20 B21 KK BB (by omega) (by omega) (by omega) (by kernel_rfl) (by rfl) (by rfl)
              refine AllReadyH.cons (o := { dst := some 21, op := Op.alloc 45, type := 0, pos := "law.go:37", after := #[], guard := none }) rfl (fun K hK => ?_) AllReadyH.nil
              go_simp
              have hlt_b21 := BB.out.size
              have hlt_b21_B20 := B20.out.lt
              have hle_b21_KK := KK.out.le
              have KK' := Lib.hid (KK.out.below (below_new v25 (.cells #[.int .i64 0, .int .u32 0, .int .u32 0] 45)))
              have MM' := Lib.hid (MM.out.below (below_new v25 (.cells #[.int .i64 0, .int .u32 0, .int .u32 0] 45)))
              have B20' := Lib.hid (B20.out.below (below_new v25 (.cells #[.int .i64 0, .int .u32 0, .int .u32 0] 45)))
              have BB' := Lib.hid (BB.out.trans ((below_new v25 (.cells #[.int .i64 0, .int .u32 0, .int .u32 0] 45)).mono BB.out.size))
              clear KK
              have KK := KK'
              clear KK'
              clear MM
              have MM := MM'
              clear MM'
              clear B20
              have B20 := B20'
              clear B20'
              clear BB
              have BB := BB'
              clear BB'
              have B21 := Lib.hid (Box.new v25 #[.int .i64 0, .int .u32 0, .int .u32 0] 45 rfl)
              generalize World.alloc v25 (.cells #[.int .i64 0, .int .u32 0, .int .u32 0] 45) = v28 at *
              generalize World.heap v25 = hp_b21 at *
              generalize hp_b21.size = b21 at *
              refine hK.out _ _ ?_ (fun hHeld => ?_)
              · exact ⟨KK.out.x1.cells2.1.1, KK.out.x1.cells2.1.2⟩
              clear hK K
              (try simp only [Act.put])
              (try simp only [List.setIfInBounds_toArray])
              (try simp only [List.set_cons_succ])
              (try simp only [List.set_cons_zero])
              refine wpAnyH_ready (rs := [3]) (by kernel_rfl) (by simp) ?_
              refine AllReadyH.cons (o := { dst := some 79, op := Op.call { callee := Callee.value (Operand.func 28), args := #[Operand.tmp 76, Operand.const (Value.int IntKind.i64 2), Operand.const (Value.int IntKind.i64 1), Operand.tmp 77, Operand.tmp 78], argTypes := #[31, 3, 42, 45, 45] }, type := 50, pos := "law.go:37", after := #[{ on := 0, ground := Ground.data }, { on := 1, ground := Ground.data }, { on := 2, ground := Ground.data }, { on := 2, ground := Ground.chain }], guard := none }) rfl (fun K hK => ?_) AllReadyH.nil
              go_simp
              go_at_call 28
              refine (swap_miss _ _ A2 3 1 1 0 0 0 5 0 0 _ _ MM.out good2 (by omega) (by rw [n2.2]; omega) (by rw [n2.1]; omega) sw9).mono ?_
              rintro e v29 ⟨pv, vv, rfl, hm, hb⟩
              have KK' := Lib.hid (KK.out.below (hb))
              have MM' := Lib.hid (MM.out.below (hb))
              have B20' := Lib.hid (B20.out.below (hb))
              have B21' := Lib.hid (B21.out.below (hb))
              have BB' := Lib.hid (BB.out.trans ((hb).mono BB.out.size))
              clear KK
              have KK := KK'
              clear KK'
              clear MM
              have MM := MM'
              clear MM'
              clear B20
              have B20 := B20'
              clear B20'
              clear B21
              have B21 := B21'
              clear B21'
              clear BB
              have BB := BB'
              clear BB'
              clear hb
              clear MM
              obtain ⟨p20, q20, e1, e2⟩ := sl9 hm
              subst e1 e2
              clear hm
              rw [l2, w3]
              go_simp
              refine hK.out _ _ ?_ (fun hHeld => ?_)
              · exact ⟨KK.out.x1.cells2.1.1, KK.out.x1.cells2.1.2⟩
              clear hK K
              (try simp only [Act.put])
              (try simp only [List.setIfInBounds_toArray])
              (try simp only [List.set_cons_succ])
              (try simp only [List.set_cons_zero])
              refine wpAnyH_take (i := 4) (oi := { dst := some 75, op := Op.move (Operand.tmp 79), type := 50, pos := "law.go:37", after := #[{ on := 3, ground := Ground.data }], guard := none }) (v := ?d30_12xv4) rfl (by kernel_rfl) (by kernel_rfl) (by kernel_rfl) (fun _ _ _ h => hQP _ _ _ _ _ h) (Or.inl ⟨by rfl, ?d30_12xy4⟩) (by assumption) ?d30_12xr4
              case d30_12xy4 => (intro w hSw; (try dsimp only at hSw); go_simp; try with_reducible rfl)
              (try simp only [Act.put])
              (try simp only [List.setIfInBounds_toArray])
              (try simp only [List.set_cons_succ])
              (try simp only [List.set_cons_zero])
              refine wpAnyH_take (i := 5) (oi := { dst := some 80, op := Op.extract (Operand.tmp 75) 0, type := 31, pos := "law.go:37", after := #[{ on := 4, ground := Ground.data }], guard := none }) (v := ?d30_13xv5) rfl (by kernel_rfl) (by kernel_rfl) (by kernel_rfl) (fun _ _ _ h => hQP _ _ _ _ _ h) (Or.inl ⟨by rfl, ?d30_13xy5⟩) (by assumption) ?d30_13xr5
              case d30_13xy5 => (intro w hSw; (try dsimp only at hSw); go_simp; try with_reducible rfl)
              (try simp only [Act.put])
              (try simp only [List.setIfInBounds_toArray])
              (try simp only [List.set_cons_succ])
              (try simp only [List.set_cons_zero])
              refine wpAnyH_take (i := 6) (oi := { dst := some 81, op := Op.extract (Operand.tmp 75) 1, type := 45, pos := "law.go:37", after := #[{ on := 4, ground := Ground.data }, { on := 11, ground := Ground.gcOnly Departure.lateStores }], guard := none }) (v := ?d30_14xv6) rfl (by kernel_rfl) (by kernel_rfl) (by kernel_rfl) (fun _ _ _ h => hQP _ _ _ _ _ h) (Or.inl ⟨by rfl, ?d30_14xy6⟩) (by assumption) ?d30_14xr6
              case d30_14xy6 => (intro w hSw; (try dsimp only at hSw); go_simp; try with_reducible rfl)
              (try simp only [Act.put])
              (try simp only [List.setIfInBounds_toArray])
              (try simp only [List.set_cons_succ])
              (try simp only [List.set_cons_zero])
              refine wpAnyH_take (i := 7) (oi := { dst := some 82, op := Op.extract (Operand.tmp 75) 2, type := 4, pos := "law.go:37", after := #[{ on := 4, ground := Ground.data }, { on := 12, ground := Ground.gcOnly Departure.lateStores }], guard := none }) (v := ?d30_15xv7) rfl (by kernel_rfl) (by kernel_rfl) (by kernel_rfl) (fun _ _ _ h => hQP _ _ _ _ _ h) (Or.inl ⟨by rfl, ?d30_15xy7⟩) (by assumption) ?d30_15xr7
              case d30_15xy7 => (intro w hSw; (try dsimp only at hSw); go_simp; try with_reducible rfl)
              (try simp only [Act.put])
              (try simp only [List.setIfInBounds_toArray])
              (try simp only [List.set_cons_succ])
              (try simp only [List.set_cons_zero])
              refine wpAnyH_take (i := 8) (oi := { dst := some 83, op := Op.extract (Operand.tmp 75) 3, type := 32, pos := "law.go:37", after := #[{ on := 4, ground := Ground.data }, { on := 13, ground := Ground.gcOnly Departure.lateStores }], guard := none }) (v := ?d30_16xv8) rfl (by kernel_rfl) (by kernel_rfl) (by kernel_rfl) (fun _ _ _ h => hQP _ _ _ _ _ h) (Or.inl ⟨by rfl, ?d30_16xy8⟩) (by assumption) ?d30_16xr8
              case d30_16xy8 => (intro w hSw; (try dsimp only at hSw); go_simp; try with_reducible rfl)
              (try simp only [Act.put])
              (try simp only [List.setIfInBounds_toArray])
              (try simp only [List.set_cons_succ])
              (try simp only [List.set_cons_zero])
              exact TL.out _ _ _ b20 b21 p20 q20 _ B20 B21 KK BB (by omega) (by omega) (by omega) (by kernel_rfl) (by rfl) (by rfl)
            refine AllReadyH.cons (o := { dst := some 21, op := Op.alloc 45, type := 0, pos := "law.go:37", after := #[], guard := none }) rfl (fun K hK => ?_) AllReadyH.nil
            go_simp
            have hlt_b21 := BB.out.size
            have hle_b21_KK := KK.out.le
            have KK' := Lib.hid (KK.out.below (below_new v19 (.cells #[.int .i64 0, .int .u32 0, .int .u32 0] 45)))
            have MM' := Lib.hid (MM.out.below (below_new v19 (.cells #[.int .i64 0, .int .u32 0, .int .u32 0] 45)))
            have BB' := Lib.hid (BB.out.trans ((below_new v19 (.cells #[.int .i64 0, .int .u32 0, .int .u32 0] 45)).mono BB.out.size))
            clear KK
            have KK := KK'
            clear KK'
            clear MM
            have MM := MM'
            clear MM'
            clear BB
            have BB := BB'
            clear BB'
            have B21 := Lib.hid (Box.new v19 #[.int .i64 0, .int .u32 0, .int .u32 0] 45 rfl)
            generalize World.alloc v19 (.cells #[.int .i64 0, .int .u32 0, .int .u32 0] 45) = v30 at *
            generalize World.heap v19 = hp_b21 at *
            generalize hp_b21.size = b21 at *
            refine hK.out _ _ ?_ (fun hHeld => ?_)
            · exact ⟨KK.out.x1.cells2.1.1, KK.out.x1.cells2.1.2⟩
            clear hK K
            (try simp only [Act.put])
            (try simp only [List.setIfInBounds_toArray])
            (try simp only [List.set_cons_succ])
            (try simp only [List.set_cons_zero])
            refine wpAnyH_ready (rs := [3, 9]) (by kernel_rfl) (by simp) ?_
            refine AllReadyH.cons (o := { dst := some 79, op := Op.call { callee := Callee.value (Operand.func 28), args := #[Operand.tmp 76, Operand.const (Value.int IntKind.i64 2), Operand.const (Value.int IntKind.i64 1), Operand.tmp 77, Operand.tmp 78], argTypes := #[31, 3, 42, 45, 45] }, type := 50, pos := "law.go:37", after := #[{ on := 0, ground := Ground.data }, { on := 1, ground := Ground.data }, { on := 2, ground := Ground.data }, { on := 2, ground := Ground.chain }], guard := none }) rfl (fun K hK => ?_) ?_
            · skip
              go_simp
              go_at_call 28
              refine (swap_miss _ _ A2 3 1 1 0 0 0 5 0 0 _ _ MM.out good2 (by omega) (by rw [n2.2]; omega) (by rw [n2.1]; omega) sw9).mono ?_
              rintro e v31 ⟨pv, vv, rfl, hm, hb⟩
              have KK' := Lib.hid (KK.out.below (hb))
              have MM' := Lib.hid (MM.out.below (hb))
              have B21' := Lib.hid (B21.out.below (hb))
              have BB' := Lib.hid (BB.out.trans ((hb).mono BB.out.size))
              clear KK
              have KK := KK'
              clear KK'
              clear MM
              have MM := MM'
              clear MM'
              clear B21
              have B21 := B21'
              clear B21'
              clear BB
              have BB := BB'
              clear BB'
              clear hb
              clear MM
              obtain ⟨p20, q20, e1, e2⟩ := sl9 hm
              subst e1 e2
              clear hm
              rw [l2, w3]
              go_simp
              refine hK.out _ _ ?_ (fun hHeld => ?_)
              · exact ⟨KK.out.x1.cells2.1.1, KK.out.x1.cells2.1.2⟩
              clear hK K
              (try simp only [Act.put])
              (try simp only [List.setIfInBounds_toArray])
              (try simp only [List.set_cons_succ])
              (try simp only [List.set_cons_zero])
              refine wpAnyH_take (i := 4) (oi := { dst := some 75, op := Op.move (Operand.tmp 79), type := 50, pos := "law.go:37", after := #[{ on := 3, ground := Ground.data }], guard := none }) (v := ?d32_17xv4) rfl (by kernel_rfl) (by kernel_rfl) (by kernel_rfl) (fun _ _ _ h => hQP _ _ _ _ _ h) (Or.inl ⟨by rfl, ?d32_17xy4⟩) (by assumption) ?d32_17xr4
              case d32_17xy4 => (intro w hSw; (try dsimp only at hSw); go_simp; try with_reducible rfl)
              (try simp only [Act.put])
              (try simp only [List.setIfInBounds_toArray])
              (try simp only [List.set_cons_succ])
              (try simp only [List.set_cons_zero])
              refine wpAnyH_take (i := 5) (oi := { dst := some 80, op := Op.extract (Operand.tmp 75) 0, type := 31, pos := "law.go:37", after := #[{ on := 4, ground := Ground.data }], guard := none }) (v := ?d32_18xv5) rfl (by kernel_rfl) (by kernel_rfl) (by kernel_rfl) (fun _ _ _ h => hQP _ _ _ _ _ h) (Or.inl ⟨by rfl, ?d32_18xy5⟩) (by assumption) ?d32_18xr5
              case d32_18xy5 => (intro w hSw; (try dsimp only at hSw); go_simp; try with_reducible rfl)
              (try simp only [Act.put])
              (try simp only [List.setIfInBounds_toArray])
              (try simp only [List.set_cons_succ])
              (try simp only [List.set_cons_zero])
              refine wpAnyH_take (i := 6) (oi := { dst := some 81, op := Op.extract (Operand.tmp 75) 1, type := 45, pos := "law.go:37", after := #[{ on := 4, ground := Ground.data }, { on := 11, ground := Ground.gcOnly Departure.lateStores }], guard := none }) (v := ?d32_19xv6) rfl (by kernel_rfl) (by kernel_rfl) (by kernel_rfl) (fun _ _ _ h => hQP _ _ _ _ _ h) (Or.inl ⟨by rfl, ?d32_19xy6⟩) (by assumption) ?d32_19xr6
              case d32_19xy6 => (intro w hSw; (try dsimp only at hSw); go_simp; try with_reducible rfl)
              (try simp only [Act.put])
              (try simp only [List.setIfInBounds_toArray])
              (try simp only [List.set_cons_succ])
              (try simp only [List.set_cons_zero])
              refine wpAnyH_take (i := 7) (oi := { dst := some 82, op := Op.extract (Operand.tmp 75) 2, type := 4, pos := "law.go:37", after := #[{ on := 4, ground := Ground.data }, { on := 12, ground := Ground.gcOnly Departure.lateStores }], guard := none }) (v := ?d32_20xv7) rfl (by kernel_rfl) (by kernel_rfl) (by kernel_rfl) (fun _ _ _ h => hQP _ _ _ _ _ h) (Or.inl ⟨by rfl, ?d32_20xy7⟩) (by assumption) ?d32_20xr7
              case d32_20xy7 => (intro w hSw; (try dsimp only at hSw); go_simp; try with_reducible rfl)
              (try simp only [Act.put])
              (try simp only [List.setIfInBounds_toArray])
              (try simp only [List.set_cons_succ])
              (try simp only [List.set_cons_zero])
              refine wpAnyH_take (i := 8) (oi := { dst := some 83, op := Op.extract (Operand.tmp 75) 3, type := 32, pos := "law.go:37", after := #[{ on := 4, ground := Ground.data }, { on := 13, ground := Ground.gcOnly Departure.lateStores }], guard := none }) (v := ?d32_21xv8) rfl (by kernel_rfl) (by kernel_rfl) (by kernel_rfl) (fun _ _ _ h => hQP _ _ _ _ _ h) (Or.inl ⟨by rfl, ?d32_21xy8⟩) (by assumption) ?d32_21xr8
              case d32_21xy8 => (intro w hSw; (try dsimp only at hSw); go_simp; try with_reducible rfl)
              (try simp only [Act.put])
              (try simp only [List.setIfInBounds_toArray])
              (try simp only [List.set_cons_succ])
              (try simp only [List.set_cons_zero])
              refine wpAnyH_ready (rs := [9]) (by kernel_rfl) (by simp) ?_
              refine AllReadyH.cons (o := { dst := some 20, op := Op.alloc 31, type := 0, pos := "law.go:37", after := #[], guard := none }) rfl (fun K hK => ?_) AllReadyH.nil
              go_simp
              have hlt_b20 := BB.out.size
              have hlt_b20_B21 := B21.out.lt
              have hle_b20_KK := KK.out.le
              have KK' := Lib.hid (KK.out.below (below_new v31 (.cells #[.slice none 0 0, .slice none 0 0] 31)))
              have B21' := Lib.hid (B21.out.below (below_new v31 (.cells #[.slice none 0 0, .slice none 0 0] 31)))
              have BB' := Lib.hid (BB.out.trans ((below_new v31 (.cells #[.slice none 0 0, .slice none 0 0] 31)).mono BB.out.size))
              clear KK
              have KK := KK'
              clear KK'
              clear B21
              have B21 := B21'
              clear B21'
              clear BB
              have BB := BB'
              clear BB'
              have B20 := Lib.hid (Box.new v31 #[.slice none 0 0, .slice none 0 0] 31 rfl)
              generalize World.alloc v31 (.cells #[.slice none 0 0, .slice none 0 0] 31) = v32 at *
              generalize World.heap v31 = hp_b20 at *
              generalize hp_b20.size = b20 at *
              refine hK.out _ _ ?_ (fun hHeld => ?_)
              · exact ⟨KK.out.x1.cells2.1.1, KK.out.x1.cells2.1.2⟩
              clear hK K
              (try simp only [Act.put])
              (try simp only [List.setIfInBounds_toArray])
              (try simp only [List.set_cons_succ])
              (try simp only [List.set_cons_zero])
              exact TL.out _ _ _ b20 b21 p20 q20 _ B20 B21 KK BB (by omega) (by omega) (by omega) (by kernel_rfl) (by rfl) (by rfl)
            refine AllReadyH.cons (o := { dst := some 20, op := Op.alloc 31, type := 0, pos := "law.go:37", after := #[], guard := none }) rfl (fun K hK => ?_) AllReadyH.nil
            go_simp
            have hlt_b20 := BB.out.size
            have hlt_b20_B21 := B21.out.lt
            have hle_b20_KK := KK.out.le
            have KK' := Lib.hid (KK.out.below (below_new v30 (.cells #[.slice none 0 0, .slice none 0 0] 31)))
            have MM' := Lib.hid (MM.out.below (below_new v30 (.cells #[.slice none 0 0, .slice none 0 0] 31)))
            have B21' := Lib.hid (B21.out.below (below_new v30 (.cells #[.slice none 0 0, .slice none 0 0] 31)))
            have BB' := Lib.hid (BB.out.trans ((below_new v30 (.cells #[.slice none 0 0, .slice none 0 0] 31)).mono BB.out.size))
            clear KK
            have KK := KK'
            clear KK'
            clear MM
            have MM := MM'
            clear MM'
            clear B21
            have B21 := B21'
            clear B21'
            clear BB
            have BB := BB'
            clear BB'
            have B20 := Lib.hid (Box.new v30 #[.slice none 0 0, .slice none 0 0] 31 rfl)
            generalize World.alloc v30 (.cells #[.slice none 0 0, .slice none 0 0] 31) = v33 at *
            generalize World.heap v30 = hp_b20 at *
            generalize hp_b20.size = b20 at *
            refine hK.out _ _ ?_ (fun hHeld => ?_)
            · exact ⟨KK.out.x1.cells2.1.1, KK.out.x1.cells2.1.2⟩
            clear hK K
            (try simp only [Act.put])
            (try simp only [List.setIfInBounds_toArray])
            (try simp only [List.set_cons_succ])
            (try simp only [List.set_cons_zero])
            refine wpAnyH_ready (rs := [3]) (by kernel_rfl) (by simp) ?_
            refine AllReadyH.cons (o := { dst := some 79, op := Op.call { callee := Callee.value (Operand.func 28), args := #[Operand.tmp 76, Operand.const (Value.int IntKind.i64 2), Operand.const (Value.int IntKind.i64 1), Operand.tmp 77, Operand.tmp 78], argTypes := #[31, 3, 42, 45, 45] }, type := 50, pos := "law.go:37", after := #[{ on := 0, ground := Ground.data }, { on := 1, ground := Ground.data }, { on := 2, ground := Ground.data }, { on := 2, ground := Ground.chain }], guard := none }) rfl (fun K hK => ?_) AllReadyH.nil
            go_simp
            go_at_call 28
            refine (swap_miss _ _ A2 3 1 1 0 0 0 5 0 0 _ _ MM.out good2 (by omega) (by rw [n2.2]; omega) (by rw [n2.1]; omega) sw9).mono ?_
            rintro e v34 ⟨pv, vv, rfl, hm, hb⟩
            have KK' := Lib.hid (KK.out.below (hb))
            have MM' := Lib.hid (MM.out.below (hb))
            have B21' := Lib.hid (B21.out.below (hb))
            have B20' := Lib.hid (B20.out.below (hb))
            have BB' := Lib.hid (BB.out.trans ((hb).mono BB.out.size))
            clear KK
            have KK := KK'
            clear KK'
            clear MM
            have MM := MM'
            clear MM'
            clear B21
            have B21 := B21'
            clear B21'
            clear B20
            have B20 := B20'
            clear B20'
            clear BB
            have BB := BB'
            clear BB'
            clear hb
            clear MM
            obtain ⟨p20, q20, e1, e2⟩ := sl9 hm
            subst e1 e2
            clear hm
            rw [l2, w3]
            go_simp
            refine hK.out _ _ ?_ (fun hHeld => ?_)
            · exact ⟨KK.out.x1.cells2.1.1, KK.out.x1.cells2.1.2⟩
            clear hK K
            (try simp only [Act.put])
            (try simp only [List.setIfInBounds_toArray])
            (try simp only [List.set_cons_succ])
            (try simp only [List.set_cons_zero])
            refine wpAnyH_take (i := 4) (oi := { dst := some 75, op := Op.move (Operand.tmp 79), type := 50, pos := "law.go:37", after := #[{ on := 3, ground := Ground.data }], guard := none }) (v := ?d35_22xv4) rfl (by kernel_rfl) (by kernel_rfl) (by kernel_rfl) (fun _ _ _ h => hQP _ _ _ _ _ h) (Or.inl ⟨by rfl, ?d35_22xy4⟩) (by assumption) ?d35_22xr4
            case d35_22xy4 => (intro w hSw; (try dsimp only at hSw); go_simp; try with_reducible rfl)
            (try simp only [Act.put])
            (try simp only [List.setIfInBounds_toArray])
            (try simp only [List.set_cons_succ])
            (try simp only [List.set_cons_zero])
            refine wpAnyH_take (i := 5) (oi := { dst := some 80, op := Op.extract (Operand.tmp 75) 0, type := 31, pos := "law.go:37", after := #[{ on := 4, ground := Ground.data }], guard := none }) (v := ?d35_23xv5) rfl (by kernel_rfl) (by kernel_rfl) (by kernel_rfl) (fun _ _ _ h => hQP _ _ _ _ _ h) (Or.inl ⟨by rfl, ?d35_23xy5⟩) (by assumption) ?d35_23xr5
            case d35_23xy5 => (intro w hSw; (try dsimp only at hSw); go_simp; try with_reducible rfl)
            (try simp only [Act.put])
            (try simp only [List.setIfInBounds_toArray])
            (try simp only [List.set_cons_succ])
            (try simp only [List.set_cons_zero])
            refine wpAnyH_take (i := 6) (oi := { dst := some 81, op := Op.extract (Operand.tmp 75) 1, type := 45, pos := "law.go:37", after := #[{ on := 4, ground := Ground.data }, { on := 11, ground := Ground.gcOnly Departure.lateStores }], guard := none }) (v := ?d35_24xv6) rfl (by kernel_rfl) (by kernel_rfl) (by kernel_rfl) (fun _ _ _ h => hQP _ _ _ _ _ h) (Or.inl ⟨by rfl, ?d35_24xy6⟩) (by assumption) ?d35_24xr6
            case d35_24xy6 => (intro w hSw; (try dsimp only at hSw); go_simp; try with_reducible rfl)
            (try simp only [Act.put])
            (try simp only [List.setIfInBounds_toArray])
            (try simp only [List.set_cons_succ])
            (try simp only [List.set_cons_zero])
            refine wpAnyH_take (i := 7) (oi := { dst := some 82, op := Op.extract (Operand.tmp 75) 2, type := 4, pos := "law.go:37", after := #[{ on := 4, ground := Ground.data }, { on := 12, ground := Ground.gcOnly Departure.lateStores }], guard := none }) (v := ?d35_25xv7) rfl (by kernel_rfl) (by kernel_rfl) (by kernel_rfl) (fun _ _ _ h => hQP _ _ _ _ _ h) (Or.inl ⟨by rfl, ?d35_25xy7⟩) (by assumption) ?d35_25xr7
            case d35_25xy7 => (intro w hSw; (try dsimp only at hSw); go_simp; try with_reducible rfl)
            (try simp only [Act.put])
            (try simp only [List.setIfInBounds_toArray])
            (try simp only [List.set_cons_succ])
            (try simp only [List.set_cons_zero])
            refine wpAnyH_take (i := 8) (oi := { dst := some 83, op := Op.extract (Operand.tmp 75) 3, type := 32, pos := "law.go:37", after := #[{ on := 4, ground := Ground.data }, { on := 13, ground := Ground.gcOnly Departure.lateStores }], guard := none }) (v := ?d35_26xv8) rfl (by kernel_rfl) (by kernel_rfl) (by kernel_rfl) (fun _ _ _ h => hQP _ _ _ _ _ h) (Or.inl ⟨by rfl, ?d35_26xy8⟩) (by assumption) ?d35_26xr8
            case d35_26xy8 => (intro w hSw; (try dsimp only at hSw); go_simp; try with_reducible rfl)
            (try simp only [Act.put])
            (try simp only [List.setIfInBounds_toArray])
            (try simp only [List.set_cons_succ])
            (try simp only [List.set_cons_zero])
            exact TL.out _ _ _ b20 b21 p20 q20 _ B20 B21 KK BB (by omega) (by omega) (by omega) (by kernel_rfl) (by rfl) (by rfl)
          refine AllReadyH.cons (o := { dst := some 20, op := Op.alloc 31, type := 0, pos := "law.go:37", after := #[], guard := none }) rfl (fun K hK => ?_) ?_
          · skip
            go_simp
            have hlt_b20 := BB.out.size
            have hle_b20_KK := KK.out.le
            have KK' := Lib.hid (KK.out.below (below_new v18 (.cells #[.slice none 0 0, .slice none 0 0] 31)))
            have MM' := Lib.hid (MM.out.below (below_new v18 (.cells #[.slice none 0 0, .slice none 0 0] 31)))
            have BB' := Lib.hid (BB.out.trans ((below_new v18 (.cells #[.slice none 0 0, .slice none 0 0] 31)).mono BB.out.size))
            clear KK
            have KK := KK'
            clear KK'
            clear MM
            have MM := MM'
            clear MM'
            clear BB
            have BB := BB'
            clear BB'
            have B20 := Lib.hid (Box.new v18 #[.slice none 0 0, .slice none 0 0] 31 rfl)
            generalize World.alloc v18 (.cells #[.slice none 0 0, .slice none 0 0] 31) = v35 at *
            generalize World.heap v18 = hp_b20 at *
            generalize hp_b20.size = b20 at *
            refine hK.out _ _ ?_ (fun hHeld => ?_)
            · exact ⟨KK.out.x1.cells2.1.1, KK.out.x1.cells2.1.2⟩
            clear hK K
            (try simp only [Act.put])
            (try simp only [List.setIfInBounds_toArray])
            (try simp only [List.set_cons_succ])
            (try simp only [List.set_cons_zero])
            refine wpAnyH_ready (rs := [2, 10]) (by kernel_rfl) (by simp) ?_
            refine AllReadyH.cons (o := { dst := some 78, op := Op.call { callee := Callee.value (Operand.func 29), args := #[Operand.const (Value.int IntKind.i64 5)], argTypes := #[2] }, type := 45, pos := "law.go:37", after := #[{ on := 1, ground := Ground.chain }], guard := none }) rfl (fun K hK => ?_) ?_
            · skip
              go_simp
              go_at_call 29
              refine (word_any 5 _).mono ?_
              rintro e v36 ⟨rfl, hb⟩
              have KK' := Lib.hid (KK.out.below (hb))
              have MM' := Lib.hid (MM.out.below (hb))
              have B20' := Lib.hid (B20.out.below (hb))
              have BB' := Lib.hid (BB.out.trans ((hb).mono BB.out.size))
              clear KK
              have KK := KK'
              clear KK'
              clear MM
              have MM := MM'
              clear MM'
              clear B20
              have B20 := B20'
              clear B20'
              clear BB
              have BB := BB'
              clear BB'
              clear hb
              go_simp
              refine hK.out _ _ ?_ (fun hHeld => ?_)
              · exact ⟨KK.out.x1.cells2.1.1, KK.out.x1.cells2.1.2⟩
              clear hK K
              (try simp only [Act.put])
              (try simp only [List.setIfInBounds_toArray])
              (try simp only [List.set_cons_succ])
              (try simp only [List.set_cons_zero])
              refine wpAnyH_ready (rs := [3, 10]) (by kernel_rfl) (by simp) ?_
              refine AllReadyH.cons (o := { dst := some 79, op := Op.call { callee := Callee.value (Operand.func 28), args := #[Operand.tmp 76, Operand.const (Value.int IntKind.i64 2), Operand.const (Value.int IntKind.i64 1), Operand.tmp 77, Operand.tmp 78], argTypes := #[31, 3, 42, 45, 45] }, type := 50, pos := "law.go:37", after := #[{ on := 0, ground := Ground.data }, { on := 1, ground := Ground.data }, { on := 2, ground := Ground.data }, { on := 2, ground := Ground.chain }], guard := none }) rfl (fun K hK => ?_) ?_
              · skip
                go_simp
                go_at_call 28
                refine (swap_miss _ _ A2 3 1 1 0 0 0 5 0 0 _ _ MM.out good2 (by omega) (by rw [n2.2]; omega) (by rw [n2.1]; omega) sw9).mono ?_
                rintro e v37 ⟨pv, vv, rfl, hm, hb⟩
                have KK' := Lib.hid (KK.out.below (hb))
                have MM' := Lib.hid (MM.out.below (hb))
                have B20' := Lib.hid (B20.out.below (hb))
                have BB' := Lib.hid (BB.out.trans ((hb).mono BB.out.size))
                clear KK
                have KK := KK'
                clear KK'
                clear MM
                have MM := MM'
                clear MM'
                clear B20
                have B20 := B20'
                clear B20'
                clear BB
                have BB := BB'
                clear BB'
                clear hb
                clear MM
                obtain ⟨p20, q20, e1, e2⟩ := sl9 hm
                subst e1 e2
                clear hm
                rw [l2, w3]
                go_simp
                refine hK.out _ _ ?_ (fun hHeld => ?_)
                · exact ⟨KK.out.x1.cells2.1.1, KK.out.x1.cells2.1.2⟩
                clear hK K
                (try simp only [Act.put])
                (try simp only [List.setIfInBounds_toArray])
                (try simp only [List.set_cons_succ])
                (try simp only [List.set_cons_zero])
                refine wpAnyH_take (i := 4) (oi := { dst := some 75, op := Op.move (Operand.tmp 79), type := 50, pos := "law.go:37", after := #[{ on := 3, ground := Ground.data }], guard := none }) (v := ?d38_27xv4) rfl (by kernel_rfl) (by kernel_rfl) (by kernel_rfl) (fun _ _ _ h => hQP _ _ _ _ _ h) (Or.inl ⟨by rfl, ?d38_27xy4⟩) (by assumption) ?d38_27xr4
                case d38_27xy4 => (intro w hSw; (try dsimp only at hSw); go_simp; try with_reducible rfl)
                (try simp only [Act.put])
                (try simp only [List.setIfInBounds_toArray])
                (try simp only [List.set_cons_succ])
                (try simp only [List.set_cons_zero])
                refine wpAnyH_take (i := 5) (oi := { dst := some 80, op := Op.extract (Operand.tmp 75) 0, type := 31, pos := "law.go:37", after := #[{ on := 4, ground := Ground.data }], guard := none }) (v := ?d38_28xv5) rfl (by kernel_rfl) (by kernel_rfl) (by kernel_rfl) (fun _ _ _ h => hQP _ _ _ _ _ h) (Or.inl ⟨by rfl, ?d38_28xy5⟩) (by assumption) ?d38_28xr5
                case d38_28xy5 => (intro w hSw; (try dsimp only at hSw); go_simp; try with_reducible rfl)
                (try simp only [Act.put])
                (try simp only [List.setIfInBounds_toArray])
                (try simp only [List.set_cons_succ])
                (try simp only [List.set_cons_zero])
                refine wpAnyH_take (i := 6) (oi := { dst := some 81, op := Op.extract (Operand.tmp 75) 1, type := 45, pos := "law.go:37", after := #[{ on := 4, ground := Ground.data }, { on := 11, ground := Ground.gcOnly Departure.lateStores }], guard := none }) (v := ?d38_29xv6) rfl (by kernel_rfl) (by kernel_rfl) (by kernel_rfl) (fun _ _ _ h => hQP _ _ _ _ _ h) (Or.inl ⟨by rfl, ?d38_29xy6⟩) (by assumption) ?d38_29xr6
                case d38_29xy6 => (intro w hSw; (try dsimp only at hSw); go_simp; try with_reducible rfl)
                (try simp only [Act.put])
                (try simp only [List.setIfInBounds_toArray])
                (try simp only [List.set_cons_succ])
                (try simp only [List.set_cons_zero])
                refine wpAnyH_take (i := 7) (oi := { dst := some 82, op := Op.extract (Operand.tmp 75) 2, type := 4, pos := "law.go:37", after := #[{ on := 4, ground := Ground.data }, { on := 12, ground := Ground.gcOnly Departure.lateStores }], guard := none }) (v := ?d38_30xv7) rfl (by kernel_rfl) (by kernel_rfl) (by kernel_rfl) (fun _ _ _ h => hQP _ _ _ _ _ h) (Or.inl ⟨by rfl, ?d38_30xy7⟩) (by assumption) ?d38_30xr7
                case d38_30xy7 => (intro w hSw; (try dsimp only at hSw); go_simp; try with_reducible rfl)
                (try simp only [Act.put])
                (try simp only [List.setIfInBounds_toArray])
                (try simp only [List.set_cons_succ])
                (try simp only [List.set_cons_zero])
                refine wpAnyH_take (i := 8) (oi := { dst := some 83, op := Op.extract (Operand.tmp 75) 3, type := 32, pos := "law.go:37", after := #[{ on := 4, ground := Ground.data }, { on := 13, ground := Ground.gcOnly Departure.lateStores }], guard := none }) (v := ?d38_31xv8) rfl (by kernel_rfl) (by kernel_rfl) (by kernel_rfl) (fun _ _ _ h => hQP _ _ _ _ _ h) (Or.inl ⟨by rfl, ?d38_31xy8⟩) (by assumption) ?d38_31xr8
                case d38_31xy8 => (intro w hSw; (try dsimp only at hSw); go_simp; try with_reducible rfl)
                (try simp only [Act.put])
                (try simp only [List.setIfInBounds_toArray])
                (try simp only [List.set_cons_succ])
                (try simp only [List.set_cons_zero])
                refine wpAnyH_ready (rs := [10]) (by kernel_rfl) (by simp) ?_
                refine AllReadyH.cons (o := { dst := some 21, op := Op.alloc 45, type := 0, pos := "law.go:37", after := #[], guard := none }) rfl (fun K hK => ?_) AllReadyH.nil
                go_simp
                have hlt_b21 := BB.out.size
                have hlt_b21_B20 := B20.out.lt
                have hle_b21_KK := KK.out.le
                have KK' := Lib.hid (KK.out.below (below_new v37 (.cells #[.int .i64 0, .int .u32 0, .int .u32 0] 45)))
                have B20' := Lib.hid (B20.out.below (below_new v37 (.cells #[.int .i64 0, .int .u32 0, .int .u32 0] 45)))
                have BB' := Lib.hid (BB.out.trans ((below_new v37 (.cells #[.int .i64 0, .int .u32 0, .int .u32 0] 45)).mono BB.out.size))
                clear KK
                have KK := KK'
                clear KK'
                clear B20
                have B20 := B20'
                clear B20'
                clear BB
                have BB := BB'
                clear BB'
                have B21 := Lib.hid (Box.new v37 #[.int .i64 0, .int .u32 0, .int .u32 0] 45 rfl)
                generalize World.alloc v37 (.cells #[.int .i64 0, .int .u32 0, .int .u32 0] 45) = v38 at *
                generalize World.heap v37 = hp_b21 at *
                generalize hp_b21.size = b21 at *
                refine hK.out _ _ ?_ (fun hHeld => ?_)
                · exact ⟨KK.out.x1.cells2.1.1, KK.out.x1.cells2.1.2⟩
                clear hK K
                (try simp only [Act.put])
                (try simp only [List.setIfInBounds_toArray])
                (try simp only [List.set_cons_succ])
                (try simp only [List.set_cons_zero])
                exact TL.out _ _ _ b20 b21 p20 q20 _ B20 B21 KK BB (by omega) (by omega) (by omega) (by kernel_rfl) (by rfl) (by rfl)
              refine AllReadyH.cons (o := { dst := some 21, op := Op.alloc 45, type := 0, pos := "law.go:37", after := #[], guard := none }) rfl (fun K hK => ?_) AllReadyH.nil
              go_simp
              have hlt_b21 := BB.out.size
              have hlt_b21_B20 := B20.out.lt
              have hle_b21_KK := KK.out.le
              have KK' := Lib.hid (KK.out.below (below_new v36 (.cells #[.int .i64 0, .int .u32 0, .int .u32 0] 45)))
              have MM' := Lib.hid (MM.out.below (below_new v36 (.cells #[.int .i64 0, .int .u32 0, .int .u32 0] 45)))
              have B20' := Lib.hid (B20.out.below (below_new v36 (.cells #[.int .i64 0, .int .u32 0, .int .u32 0] 45)))
              have BB' := Lib.hid (BB.out.trans ((below_new v36 (.cells #[.int .i64 0, .int .u32 0, .int .u32 0] 45)).mono BB.out.size))
              clear KK
              have KK := KK'
              clear KK'
              clear MM
              have MM := MM'
              clear MM'
              clear B20
              have B20 := B20'
              clear B20'
              clear BB
              have BB := BB'
              clear BB'
              have B21 := Lib.hid (Box.new v36 #[.int .i64 0, .int .u32 0, .int .u32 0] 45 rfl)
              generalize World.alloc v36 (.cells #[.int .i64 0, .int .u32 0, .int .u32 0] 45) = v39 at *
              generalize World.heap v36 = hp_b21 at *
              generalize hp_b21.size = b21 at *
              refine hK.out _ _ ?_ (fun hHeld => ?_)
              · exact ⟨KK.out.x1.cells2.1.1, KK.out.x1.cells2.1.2⟩
              clear hK K
              (try simp only [Act.put])
              (try simp only [List.setIfInBounds_toArray])
              (try simp only [List.set_cons_succ])
              (try simp only [List.set_cons_zero])
              refine wpAnyH_ready (rs := [3]) (by kernel_rfl) (by simp) ?_
              refine AllReadyH.cons (o := { dst := some 79, op := Op.call { callee := Callee.value (Operand.func 28), args := #[Operand.tmp 76, Operand.const (Value.int IntKind.i64 2), Operand.const (Value.int IntKind.i64 1), Operand.tmp 77, Operand.tmp 78], argTypes := #[31, 3, 42, 45, 45] }, type := 50, pos := "law.go:37", after := #[{ on := 0, ground := Ground.data }, { on := 1, ground := Ground.data }, { on := 2, ground := Ground.data }, { on := 2, ground := Ground.chain }], guard := none }) rfl (fun K hK => ?_) AllReadyH.nil
              go_simp
              go_at_call 28
              refine (swap_miss _ _ A2 3 1 1 0 0 0 5 0 0 _ _ MM.out good2 (by omega) (by rw [n2.2]; omega) (by rw [n2.1]; omega) sw9).mono ?_
              rintro e v40 ⟨pv, vv, rfl, hm, hb⟩
              have KK' := Lib.hid (KK.out.below (hb))
              have MM' := Lib.hid (MM.out.below (hb))
              have B20' := Lib.hid (B20.out.below (hb))
              have B21' := Lib.hid (B21.out.below (hb))
              have BB' := Lib.hid (BB.out.trans ((hb).mono BB.out.size))
              clear KK
              have KK := KK'
              clear KK'
              clear MM
              have MM := MM'
              clear MM'
              clear B20
              have B20 := B20'
              clear B20'
              clear B21
              have B21 := B21'
              clear B21'
              clear BB
              have BB := BB'
              clear BB'
              clear hb
              clear MM
              obtain ⟨p20, q20, e1, e2⟩ := sl9 hm
              subst e1 e2
              clear hm
              rw [l2, w3]
              go_simp
              refine hK.out _ _ ?_ (fun hHeld => ?_)
              · exact ⟨KK.out.x1.cells2.1.1, KK.out.x1.cells2.1.2⟩
              clear hK K
              (try simp only [Act.put])
              (try simp only [List.setIfInBounds_toArray])
              (try simp only [List.set_cons_succ])
              (try simp only [List.set_cons_zero])
              refine wpAnyH_take (i := 4) (oi := { dst := some 75, op := Op.move (Operand.tmp 79), type := 50, pos := "law.go:37", after := #[{ on := 3, ground := Ground.data }], guard := none }) (v := ?d41_32xv4) rfl (by kernel_rfl) (by kernel_rfl) (by kernel_rfl) (fun _ _ _ h => hQP _ _ _ _ _ h) (Or.inl ⟨by rfl, ?d41_32xy4⟩) (by assumption) ?d41_32xr4
              case d41_32xy4 => (intro w hSw; (try dsimp only at hSw); go_simp; try with_reducible rfl)
              (try simp only [Act.put])
              (try simp only [List.setIfInBounds_toArray])
              (try simp only [List.set_cons_succ])
              (try simp only [List.set_cons_zero])
              refine wpAnyH_take (i := 5) (oi := { dst := some 80, op := Op.extract (Operand.tmp 75) 0, type := 31, pos := "law.go:37", after := #[{ on := 4, ground := Ground.data }], guard := none }) (v := ?d41_33xv5) rfl (by kernel_rfl) (by kernel_rfl) (by kernel_rfl) (fun _ _ _ h => hQP _ _ _ _ _ h) (Or.inl ⟨by rfl, ?d41_33xy5⟩) (by assumption) ?d41_33xr5
              case d41_33xy5 => (intro w hSw; (try dsimp only at hSw); go_simp; try with_reducible rfl)
              (try simp only [Act.put])
              (try simp only [List.setIfInBounds_toArray])
              (try simp only [List.set_cons_succ])
              (try simp only [List.set_cons_zero])
              refine wpAnyH_take (i := 6) (oi := { dst := some 81, op := Op.extract (Operand.tmp 75) 1, type := 45, pos := "law.go:37", after := #[{ on := 4, ground := Ground.data }, { on := 11, ground := Ground.gcOnly Departure.lateStores }], guard := none }) (v := ?d41_34xv6) rfl (by kernel_rfl) (by kernel_rfl) (by kernel_rfl) (fun _ _ _ h => hQP _ _ _ _ _ h) (Or.inl ⟨by rfl, ?d41_34xy6⟩) (by assumption) ?d41_34xr6
              case d41_34xy6 => (intro w hSw; (try dsimp only at hSw); go_simp; try with_reducible rfl)
              (try simp only [Act.put])
              (try simp only [List.setIfInBounds_toArray])
              (try simp only [List.set_cons_succ])
              (try simp only [List.set_cons_zero])
              refine wpAnyH_take (i := 7) (oi := { dst := some 82, op := Op.extract (Operand.tmp 75) 2, type := 4, pos := "law.go:37", after := #[{ on := 4, ground := Ground.data }, { on := 12, ground := Ground.gcOnly Departure.lateStores }], guard := none }) (v := ?d41_35xv7) rfl (by kernel_rfl) (by kernel_rfl) (by kernel_rfl) (fun _ _ _ h => hQP _ _ _ _ _ h) (Or.inl ⟨by rfl, ?d41_35xy7⟩) (by assumption) ?d41_35xr7
              case d41_35xy7 => (intro w hSw; (try dsimp only at hSw); go_simp; try with_reducible rfl)
              (try simp only [Act.put])
              (try simp only [List.setIfInBounds_toArray])
              (try simp only [List.set_cons_succ])
              (try simp only [List.set_cons_zero])
              refine wpAnyH_take (i := 8) (oi := { dst := some 83, op := Op.extract (Operand.tmp 75) 3, type := 32, pos := "law.go:37", after := #[{ on := 4, ground := Ground.data }, { on := 13, ground := Ground.gcOnly Departure.lateStores }], guard := none }) (v := ?d41_36xv8) rfl (by kernel_rfl) (by kernel_rfl) (by kernel_rfl) (fun _ _ _ h => hQP _ _ _ _ _ h) (Or.inl ⟨by rfl, ?d41_36xy8⟩) (by assumption) ?d41_36xr8
              case d41_36xy8 => (intro w hSw; (try dsimp only at hSw); go_simp; try with_reducible rfl)
              (try simp only [Act.put])
              (try simp only [List.setIfInBounds_toArray])
              (try simp only [List.set_cons_succ])
              (try simp only [List.set_cons_zero])
              exact TL.out _ _ _ b20 b21 p20 q20 _ B20 B21 KK BB (by omega) (by omega) (by omega) (by kernel_rfl) (by rfl) (by rfl)
            refine AllReadyH.cons (o := { dst := some 21, op := Op.alloc 45, type := 0, pos := "law.go:37", after := #[], guard := none }) rfl (fun K hK => ?_) AllReadyH.nil
            go_simp
            have hlt_b21 := BB.out.size
            have hlt_b21_B20 := B20.out.lt
            have hle_b21_KK := KK.out.le
            have KK' := Lib.hid (KK.out.below (below_new v35 (.cells #[.int .i64 0, .int .u32 0, .int .u32 0] 45)))
            have MM' := Lib.hid (MM.out.below (below_new v35 (.cells #[.int .i64 0, .int .u32 0, .int .u32 0] 45)))
            have B20' := Lib.hid (B20.out.below (below_new v35 (.cells #[.int .i64 0, .int .u32 0, .int .u32 0] 45)))
            have BB' := Lib.hid (BB.out.trans ((below_new v35 (.cells #[.int .i64 0, .int .u32 0, .int .u32 0] 45)).mono BB.out.size))
            clear KK
            have KK := KK'
            clear KK'
            clear MM
            have MM := MM'
            clear MM'
            clear B20
            have B20 := B20'
            clear B20'
            clear BB
            have BB := BB'
            clear BB'
            have B21 := Lib.hid (Box.new v35 #[.int .i64 0, .int .u32 0, .int .u32 0] 45 rfl)
            generalize World.alloc v35 (.cells #[.int .i64 0, .int .u32 0, .int .u32 0] 45) = v41 at *
            generalize World.heap v35 = hp_b21 at *
            generalize hp_b21.size = b21 at *
            refine hK.out _ _ ?_ (fun hHeld => ?_)
            · exact ⟨KK.out.x1.cells2.1.1, KK.out.x1.cells2.1.2⟩
            clear hK K
            (try simp only [Act.put])
            (try simp only [List.setIfInBounds_toArray])
            (try simp only [List.set_cons_succ])
            (try simp only [List.set_cons_zero])
            refine wpAnyH_ready (rs := [2]) (by kernel_rfl) (by simp) ?_
            refine AllReadyH.cons (o := { dst := some 78, op := Op.call { callee := Callee.value (Operand.func 29), args := #[Operand.const (Value.int IntKind.i64 5)], argTypes := #[2] }, type := 45, pos := "law.go:37", after := #[{ on := 1, ground := Ground.chain }], guard := none }) rfl (fun K hK => ?_) AllReadyH.nil
            go_simp
            go_at_call 29
            refine (word_any 5 _).mono ?_
            rintro e v42 ⟨rfl, hb⟩
            have KK' := Lib.hid (KK.out.below (hb))
            have MM' := Lib.hid (MM.out.below (hb))
            have B20' := Lib.hid (B20.out.below (hb))
            have B21' := Lib.hid (B21.out.below (hb))
            have BB' := Lib.hid (BB.out.trans ((hb).mono BB.out.size))
            clear KK
            have KK := KK'
            clear KK'
            clear MM
            have MM := MM'
            clear MM'
            clear B20
            have B20 := B20'
            clear B20'
            clear B21
            have B21 := B21'
            clear B21'
            clear BB
            have BB := BB'
            clear BB'
            clear hb
            go_simp
            refine hK.out _ _ ?_ (fun hHeld => ?_)
            · exact ⟨KK.out.x1.cells2.1.1, KK.out.x1.cells2.1.2⟩
            clear hK K
            (try simp only [Act.put])
            (try simp only [List.setIfInBounds_toArray])
            (try simp only [List.set_cons_succ])
            (try simp only [List.set_cons_zero])
            refine wpAnyH_ready (rs := [3]) (by kernel_rfl) (by simp) ?_
            refine AllReadyH.cons (o := { dst := some 79, op := Op.call { callee := Callee.value (Operand.func 28), args := #[Operand.tmp 76, Operand.const (Value.int IntKind.i64 2), Operand.const (Value.int IntKind.i64 1), Operand.tmp 77, Operand.tmp 78], argTypes := #[31, 3, 42, 45, 45] }, type := 50, pos := "law.go:37", after := #[{ on := 0, ground := Ground.data }, { on := 1, ground := Ground.data }, { on := 2, ground := Ground.data }, { on := 2, ground := Ground.chain }], guard := none }) rfl (fun K hK => ?_) AllReadyH.nil
            go_simp
            go_at_call 28
            refine (swap_miss _ _ A2 3 1 1 0 0 0 5 0 0 _ _ MM.out good2 (by omega) (by rw [n2.2]; omega) (by rw [n2.1]; omega) sw9).mono ?_
            rintro e v43 ⟨pv, vv, rfl, hm, hb⟩
            have KK' := Lib.hid (KK.out.below (hb))
            have MM' := Lib.hid (MM.out.below (hb))
            have B20' := Lib.hid (B20.out.below (hb))
            have B21' := Lib.hid (B21.out.below (hb))
            have BB' := Lib.hid (BB.out.trans ((hb).mono BB.out.size))
            clear KK
            have KK := KK'
            clear KK'
            clear MM
            have MM := MM'
            clear MM'
            clear B20
            have B20 := B20'
            clear B20'
            clear B21
            have B21 := B21'
            clear B21'
            clear BB
            have BB := BB'
            clear BB'
            clear hb
            clear MM
            obtain ⟨p20, q20, e1, e2⟩ := sl9 hm
            subst e1 e2
            clear hm
            rw [l2, w3]
            go_simp
            refine hK.out _ _ ?_ (fun hHeld => ?_)
            · exact ⟨KK.out.x1.cells2.1.1, KK.out.x1.cells2.1.2⟩
            clear hK K
            (try simp only [Act.put])
            (try simp only [List.setIfInBounds_toArray])
            (try simp only [List.set_cons_succ])
            (try simp only [List.set_cons_zero])
            refine wpAnyH_take (i := 4) (oi := { dst := some 75, op := Op.move (Operand.tmp 79), type := 50, pos := "law.go:37", after := #[{ on := 3, ground := Ground.data }], guard := none }) (v := ?d44_37xv4) rfl (by kernel_rfl) (by kernel_rfl) (by kernel_rfl) (fun _ _ _ h => hQP _ _ _ _ _ h) (Or.inl ⟨by rfl, ?d44_37xy4⟩) (by assumption) ?d44_37xr4
            case d44_37xy4 => (intro w hSw; (try dsimp only at hSw); go_simp; try with_reducible rfl)
            (try simp only [Act.put])
            (try simp only [List.setIfInBounds_toArray])
            (try simp only [List.set_cons_succ])
            (try simp only [List.set_cons_zero])
            refine wpAnyH_take (i := 5) (oi := { dst := some 80, op := Op.extract (Operand.tmp 75) 0, type := 31, pos := "law.go:37", after := #[{ on := 4, ground := Ground.data }], guard := none }) (v := ?d44_38xv5) rfl (by kernel_rfl) (by kernel_rfl) (by kernel_rfl) (fun _ _ _ h => hQP _ _ _ _ _ h) (Or.inl ⟨by rfl, ?d44_38xy5⟩) (by assumption) ?d44_38xr5
            case d44_38xy5 => (intro w hSw; (try dsimp only at hSw); go_simp; try with_reducible rfl)
            (try simp only [Act.put])
            (try simp only [List.setIfInBounds_toArray])
            (try simp only [List.set_cons_succ])
            (try simp only [List.set_cons_zero])
            refine wpAnyH_take (i := 6) (oi := { dst := some 81, op := Op.extract (Operand.tmp 75) 1, type := 45, pos := "law.go:37", after := #[{ on := 4, ground := Ground.data }, { on := 11, ground := Ground.gcOnly Departure.lateStores }], guard := none }) (v := ?d44_39xv6) rfl (by kernel_rfl) (by kernel_rfl) (by kernel_rfl) (fun _ _ _ h => hQP _ _ _ _ _ h) (Or.inl ⟨by rfl, ?d44_39xy6⟩) (by assumption) ?d44_39xr6
            case d44_39xy6 => (intro w hSw; (try dsimp only at hSw); go_simp; try with_reducible rfl)
            (try simp only [Act.put])
            (try simp only [List.setIfInBounds_toArray])
            (try simp only [List.set_cons_succ])
            (try simp only [List.set_cons_zero])
            refine wpAnyH_take (i := 7) (oi := { dst := some 82, op := Op.extract (Operand.tmp 75) 2, type := 4, pos := "law.go:37", after := #[{ on := 4, ground := Ground.data }, { on := 12, ground := Ground.gcOnly Departure.lateStores }], guard := none }) (v := ?d44_40xv7) rfl (by kernel_rfl) (by kernel_rfl) (by kernel_rfl) (fun _ _ _ h => hQP _ _ _ _ _ h) (Or.inl ⟨by rfl, ?d44_40xy7⟩) (by assumption) ?d44_40xr7
            case d44_40xy7 => (intro w hSw; (try dsimp only at hSw); go_simp; try with_reducible rfl)
            (try simp only [Act.put])
            (try simp only [List.setIfInBounds_toArray])
            (try simp only [List.set_cons_succ])
            (try simp only [List.set_cons_zero])
            refine wpAnyH_take (i := 8) (oi := { dst := some 83, op := Op.extract (Operand.tmp 75) 3, type := 32, pos := "law.go:37", after := #[{ on := 4, ground := Ground.data }, { on := 13, ground := Ground.gcOnly Departure.lateStores }], guard := none }) (v := ?d44_41xv8) rfl (by kernel_rfl) (by kernel_rfl) (by kernel_rfl) (fun _ _ _ h => hQP _ _ _ _ _ h) (Or.inl ⟨by rfl, ?d44_41xy8⟩) (by assumption) ?d44_41xr8
            case d44_41xy8 => (intro w hSw; (try dsimp only at hSw); go_simp; try with_reducible rfl)
            (try simp only [Act.put])
            (try simp only [List.setIfInBounds_toArray])
            (try simp only [List.set_cons_succ])
            (try simp only [List.set_cons_zero])
            exact TL.out _ _ _ b20 b21 p20 q20 _ B20 B21 KK BB (by omega) (by omega) (by omega) (by kernel_rfl) (by rfl) (by rfl)
          refine AllReadyH.cons (o := { dst := some 21, op := Op.alloc 45, type := 0, pos := "law.go:37", after := #[], guard := none }) rfl (fun K hK => ?_) AllReadyH.nil
          go_simp
          have hlt_b21 := BB.out.size
          have hle_b21_KK := KK.out.le
          have KK' := Lib.hid (KK.out.below (below_new v18 (.cells #[.int .i64 0, .int .u32 0, .int .u32 0] 45)))
          have MM' := Lib.hid (MM.out.below (below_new v18 (.cells #[.int .i64 0, .int .u32 0, .int .u32 0] 45)))
          have BB' := Lib.hid (BB.out.trans ((below_new v18 (.cells #[.int .i64 0, .int .u32 0, .int .u32 0] 45)).mono BB.out.size))
          clear KK
          have KK := KK'
          clear KK'
          clear MM
          have MM := MM'
          clear MM'
          clear BB
          have BB := BB'
          clear BB'
          have B21 := Lib.hid (Box.new v18 #[.int .i64 0, .int .u32 0, .int .u32 0] 45 rfl)
          generalize World.alloc v18 (.cells #[.int .i64 0, .int .u32 0, .int .u32 0] 45) = v44 at *
          generalize World.heap v18 = hp_b21 at *
          generalize hp_b21.size = b21 at *
          refine hK.out _ _ ?_ (fun hHeld => ?_)
          · exact ⟨KK.out.x1.cells2.1.1, KK.out.x1.cells2.1.2⟩
          clear hK K
          (try simp only [Act.put])
          (try simp only [List.setIfInBounds_toArray])
          (try simp only [List.set_cons_succ])
          (try simp only [List.set_cons_zero])
          refine wpAnyH_ready (rs := [2, 9]) (by kernel_rfl) (by simp) ?_
          refine AllReadyH.cons (o := { dst := some 78, op := Op.call { callee := Callee.value (Operand.func 29), args := #[Operand.const (Value.int IntKind.i64 5)], argTypes := #[2] }, type := 45, pos := "law.go:37", after := #[{ on := 1, ground := Ground.chain }], guard := none }) rfl (fun K hK => ?_) ?_
          · skip
            go_simp
            go_at_call 29
            refine (word_any 5 _).mono ?_
            rintro e v45 ⟨rfl, hb⟩
            have KK' := Lib.hid (KK.out.below (hb))
            have MM' := Lib.hid (MM.out.below (hb))
            have B21' := Lib.hid (B21.out.below (hb))
            have BB' := Lib.hid (BB.out.trans ((hb).mono BB.out.size))
            clear KK
            have KK := KK'
            clear KK'
            clear MM
            have MM := MM'
            clear MM'
            clear B21
            have B21 := B21'
            clear B21'
            clear BB
            have BB := BB'
            clear BB'
            clear hb
            go_simp
            refine hK.out _ _ ?_ (fun hHeld => ?_)
            · exact ⟨KK.out.x1.cells2.1.1, KK.out.x1.cells2.1.2⟩
            clear hK K
            (try simp only [Act.put])
            (try simp only [List.setIfInBounds_toArray])
            (try simp only [List.set_cons_succ])
            (try simp only [List.set_cons_zero])
            refine wpAnyH_ready (rs := [3, 9]) (by kernel_rfl) (by simp) ?_
            refine AllReadyH.cons (o := { dst := some 79, op := Op.call { callee := Callee.value (Operand.func 28), args := #[Operand.tmp 76, Operand.const (Value.int IntKind.i64 2), Operand.const (Value.int IntKind.i64 1), Operand.tmp 77, Operand.tmp 78], argTypes := #[31, 3, 42, 45, 45] }, type := 50, pos := "law.go:37", after := #[{ on := 0, ground := Ground.data }, { on := 1, ground := Ground.data }, { on := 2, ground := Ground.data }, { on := 2, ground := Ground.chain }], guard := none }) rfl (fun K hK => ?_) ?_
            · skip
              go_simp
              go_at_call 28
              refine (swap_miss _ _ A2 3 1 1 0 0 0 5 0 0 _ _ MM.out good2 (by omega) (by rw [n2.2]; omega) (by rw [n2.1]; omega) sw9).mono ?_
              rintro e v46 ⟨pv, vv, rfl, hm, hb⟩
              have KK' := Lib.hid (KK.out.below (hb))
              have MM' := Lib.hid (MM.out.below (hb))
              have B21' := Lib.hid (B21.out.below (hb))
              have BB' := Lib.hid (BB.out.trans ((hb).mono BB.out.size))
              clear KK
              have KK := KK'
              clear KK'
              clear MM
              have MM := MM'
              clear MM'
              clear B21
              have B21 := B21'
              clear B21'
              clear BB
              have BB := BB'
              clear BB'
              clear hb
              clear MM
              obtain ⟨p20, q20, e1, e2⟩ := sl9 hm
              subst e1 e2
              clear hm
              rw [l2, w3]
              go_simp
              refine hK.out _ _ ?_ (fun hHeld => ?_)
              · exact ⟨KK.out.x1.cells2.1.1, KK.out.x1.cells2.1.2⟩
              clear hK K
              (try simp only [Act.put])
              (try simp only [List.setIfInBounds_toArray])
              (try simp only [List.set_cons_succ])
              (try simp only [List.set_cons_zero])
              refine wpAnyH_take (i := 4) (oi := { dst := some 75, op := Op.move (Operand.tmp 79), type := 50, pos := "law.go:37", after := #[{ on := 3, ground := Ground.data }], guard := none }) (v := ?d47_42xv4) rfl (by kernel_rfl) (by kernel_rfl) (by kernel_rfl) (fun _ _ _ h => hQP _ _ _ _ _ h) (Or.inl ⟨by rfl, ?d47_42xy4⟩) (by assumption) ?d47_42xr4
              case d47_42xy4 => (intro w hSw; (try dsimp only at hSw); go_simp; try with_reducible rfl)
              (try simp only [Act.put])
              (try simp only [List.setIfInBounds_toArray])
              (try simp only [List.set_cons_succ])
              (try simp only [List.set_cons_zero])
              refine wpAnyH_take (i := 5) (oi := { dst := some 80, op := Op.extract (Operand.tmp 75) 0, type := 31, pos := "law.go:37", after := #[{ on := 4, ground := Ground.data }], guard := none }) (v := ?d47_43xv5) rfl (by kernel_rfl) (by kernel_rfl) (by kernel_rfl) (fun _ _ _ h => hQP _ _ _ _ _ h) (Or.inl ⟨by rfl, ?d47_43xy5⟩) (by assumption) ?d47_43xr5
              case d47_43xy5 => (intro w hSw; (try dsimp only at hSw); go_simp; try with_reducible rfl)
              (try simp only [Act.put])
              (try simp only [List.setIfInBounds_toArray])
              (try simp only [List.set_cons_succ])
              (try simp only [List.set_cons_zero])
              refine wpAnyH_take (i := 6) (oi := { dst := some 81, op := Op.extract (Operand.tmp 75) 1, type := 45, pos := "law.go:37", after := #[{ on := 4, ground := Ground.data }, { on := 11, ground := Ground.gcOnly Departure.lateStores }], guard := none }) (v := ?d47_44xv6) rfl (by kernel_rfl) (by kernel_rfl) (by kernel_rfl) (fun _ _ _ h => hQP _ _ _ _ _ h) (Or.inl ⟨by rfl, ?d47_44xy6⟩) (by assumption) ?d47_44xr6
              case d47_44xy6 => (intro w hSw; (try dsimp only at hSw); go_simp; try with_reducible rfl)
              (try simp only [Act.put])
              (try simp only [List.setIfInBounds_toArray])
              (try simp only [List.set_cons_succ])
              (try simp only [List.set_cons_zero])
              refine wpAnyH_take (i := 7) (oi := { dst := some 82, op := Op.extract (Operand.tmp 75) 2, type := 4, pos := "law.go:37", after := #[{ on := 4, ground := Ground.data }, { on := 12, ground := Ground.gcOnly Departure.lateStores }], guard := none }) (v := ?d47_45xv7) rfl (by kernel_rfl) (by kernel_rfl) (by kernel_rfl) (fun _ _ _ h => hQP _ _ _ _ _ h) (Or.inl ⟨by rfl, ?d47_45xy7⟩) (by assumption) ?d47_45xr7
              case d47_45xy7 => (intro w hSw; (try dsimp only at hSw); go_simp; try with_reducible rfl)
              (try simp only [Act.put])
              (try simp only [List.setIfInBounds_toArray])
              (try simp only [List.set_cons_succ])
              (try simp only [List.set_cons_zero])
              refine wpAnyH_take (i := 8) (oi := { dst := some 83, op := Op.extract (Operand.tmp 75) 3, type := 32, pos := "law.go:37", after := #[{ on := 4, ground := Ground.data }, { on := 13, ground := Ground.gcOnly Departure.lateStores }], guard := none }) (v := ?d47_46xv8) rfl (by kernel_rfl) (by kernel_rfl) (by kernel_rfl) (fun _ _ _ h => hQP _ _ _ _ _ h) (Or.inl ⟨by rfl, ?d47_46xy8⟩) (by assumption) ?d47_46xr8
              case d47_46xy8 => (intro w hSw; (try dsimp only at hSw); go_simp; try with_reducible rfl)
              (try simp only [Act.put])
              (try simp only [List.setIfInBounds_toArray])
              (try simp only [List.set_cons_succ])
              (try simp only [List.set_cons_zero])
              refine wpAnyH_ready (rs := [9]) (by kernel_rfl) (by simp) ?_
              refine AllReadyH.cons (o := { dst := some 20, op := Op.alloc 31, type := 0, pos := "law.go:37", after := #[], guard := none }) rfl (fun K hK => ?_) AllReadyH.nil
              go_simp
              have hlt_b20 := BB.out.size
              have hlt_b20_B21 := B21.out.lt
              have hle_b20_KK := KK.out.le
              have KK' := Lib.hid (KK.out.below (below_new v46 (.cells #[.slice none 0 0, .slice none 0 0] 31)))
              have B21' := Lib.hid (B21.out.below (below_new v46 (.cells #[.slice none 0 0, .slice none 0 0] 31)))
              have BB' := Lib.hid (BB.out.trans ((below_new v46 (.cells #[.slice none 0 0, .slice none 0 0] 31)).mono BB.out.size))
              clear KK
              have KK := KK'
              clear KK'
              clear B21
              have B21 := B21'
              clear B21'
              clear BB
              have BB := BB'
              clear BB'
              have B20 := Lib.hid (Box.new v46 #[.slice none 0 0, .slice none 0 0] 31 rfl)
              generalize World.alloc v46 (.cells #[.slice none 0 0, .slice none 0 0] 31) = v47 at *
              generalize World.heap v46 = hp_b20 at *
              generalize hp_b20.size = b20 at *
              refine hK.out _ _ ?_ (fun hHeld => ?_)
              · exact ⟨KK.out.x1.cells2.1.1, KK.out.x1.cells2.1.2⟩
              clear hK K
              (try simp only [Act.put])
              (try simp only [List.setIfInBounds_toArray])
              (try simp only [List.set_cons_succ])
              (try simp only [List.set_cons_zero])
              exact TL.out _ _ _ b20 b21 p20 q20 _ B20 B21 KK BB (by omega) (by omega) (by omega) (by kernel_rfl) (by rfl) (by rfl)
            refine AllReadyH.cons (o := { dst := some 20, op := Op.alloc 31, type := 0, pos := "law.go:37", after := #[], guard := none }) rfl (fun K hK => ?_) AllReadyH.nil
            go_simp
            have hlt_b20 := BB.out.size
            have hlt_b20_B21 := B21.out.lt
            have hle_b20_KK := KK.out.le
            have KK' := Lib.hid (KK.out.below (below_new v45 (.cells #[.slice none 0 0, .slice none 0 0] 31)))
            have MM' := Lib.hid (MM.out.below (below_new v45 (.cells #[.slice none 0 0, .slice none 0 0] 31)))
            have B21' := Lib.hid (B21.out.below (below_new v45 (.cells #[.slice none 0 0, .slice none 0 0] 31)))
            have BB' := Lib.hid (BB.out.trans ((below_new v45 (.cells #[.slice none 0 0, .slice none 0 0] 31)).mono BB.out.size))
            clear KK
            have KK := KK'
            clear KK'
            clear MM
            have MM := MM'
            clear MM'
            clear B21
            have B21 := B21'
            clear B21'
            clear BB
            have BB := BB'
            clear BB'
            have B20 := Lib.hid (Box.new v45 #[.slice none 0 0, .slice none 0 0] 31 rfl)
            generalize World.alloc v45 (.cells #[.slice none 0 0, .slice none 0 0] 31) = v48 at *
            generalize World.heap v45 = hp_b20 at *
            generalize hp_b20.size = b20 at *
            refine hK.out _ _ ?_ (fun hHeld => ?_)
            · exact ⟨KK.out.x1.cells2.1.1, KK.out.x1.cells2.1.2⟩
            clear hK K
            (try simp only [Act.put])
            (try simp only [List.setIfInBounds_toArray])
            (try simp only [List.set_cons_succ])
            (try simp only [List.set_cons_zero])
            refine wpAnyH_ready (rs := [3]) (by kernel_rfl) (by simp) ?_
            refine AllReadyH.cons (o := { dst := some 79, op := Op.call { callee := Callee.value (Operand.func 28), args := #[Operand.tmp 76, Operand.const (Value.int IntKind.i64 2), Operand.const (Value.int IntKind.i64 1), Operand.tmp 77, Operand.tmp 78], argTypes := #[31, 3, 42, 45, 45] }, type := 50, pos := "law.go:37", after := #[{ on := 0, ground := Ground.data }, { on := 1, ground := Ground.data }, { on := 2, ground := Ground.data }, { on := 2, ground := Ground.chain }], guard := none }) rfl (fun K hK => ?_) AllReadyH.nil
            go_simp
            go_at_call 28
            refine (swap_miss _ _ A2 3 1 1 0 0 0 5 0 0 _ _ MM.out good2 (by omega) (by rw [n2.2]; omega) (by rw [n2.1]; omega) sw9).mono ?_
            rintro e v49 ⟨pv, vv, rfl, hm, hb⟩
            have KK' := Lib.hid (KK.out.below (hb))
            have MM' := Lib.hid (MM.out.below (hb))
            have B21' := Lib.hid (B21.out.below (hb))
            have B20' := Lib.hid (B20.out.below (hb))
            have BB' := Lib.hid (BB.out.trans ((hb).mono BB.out.size))
            clear KK
            have KK := KK'
            clear KK'
            clear MM
            have MM := MM'
            clear MM'
            clear B21
            have B21 := B21'
            clear B21'
            clear B20
            have B20 := B20'
            clear B20'
            clear BB
            have BB := BB'
            clear BB'
            clear hb
            clear MM
            obtain ⟨p20, q20, e1, e2⟩ := sl9 hm
            subst e1 e2
            clear hm
            rw [l2, w3]
            go_simp
            refine hK.out _ _ ?_ (fun hHeld => ?_)
            · exact ⟨KK.out.x1.cells2.1.1, KK.out.x1.cells2.1.2⟩
            clear hK K
            (try simp only [Act.put])
            (try simp only [List.setIfInBounds_toArray])
            (try simp only [List.set_cons_succ])
            (try simp only [List.set_cons_zero])
            refine wpAnyH_take (i := 4) (oi := { dst := some 75, op := Op.move (Operand.tmp 79), type := 50, pos := "law.go:37", after := #[{ on := 3, ground := Ground.data }], guard := none }) (v := ?d50_47xv4) rfl (by kernel_rfl) (by kernel_rfl) (by kernel_rfl) (fun _ _ _ h => hQP _ _ _ _ _ h) (Or.inl ⟨by rfl, ?d50_47xy4⟩) (by assumption) ?d50_47xr4
            case d50_47xy4 => (intro w hSw; (try dsimp only at hSw); go_simp; try with_reducible rfl)
            (try simp only [Act.put])
            (try simp only [List.setIfInBounds_toArray])
            (try simp only [List.set_cons_succ])
            (try simp only [List.set_cons_zero])
            refine wpAnyH_take (i := 5) (oi := { dst := some 80, op := Op.extract (Operand.tmp 75) 0, type := 31, pos := "law.go:37", after := #[{ on := 4, ground := Ground.data }], guard := none }) (v := ?d50_48xv5) rfl (by kernel_rfl) (by kernel_rfl) (by kernel_rfl) (fun _ _ _ h => hQP _ _ _ _ _ h) (Or.inl ⟨by rfl, ?d50_48xy5⟩) (by assumption) ?d50_48xr5
            case d50_48xy5 => (intro w hSw; (try dsimp only at hSw); go_simp; try with_reducible rfl)
            (try simp only [Act.put])
            (try simp only [List.setIfInBounds_toArray])
            (try simp only [List.set_cons_succ])
            (try simp only [List.set_cons_zero])
            refine wpAnyH_take (i := 6) (oi := { dst := some 81, op := Op.extract (Operand.tmp 75) 1, type := 45, pos := "law.go:37", after := #[{ on := 4, ground := Ground.data }, { on := 11, ground := Ground.gcOnly Departure.lateStores }], guard := none }) (v := ?d50_49xv6) rfl (by kernel_rfl) (by kernel_rfl) (by kernel_rfl) (fun _ _ _ h => hQP _ _ _ _ _ h) (Or.inl ⟨by rfl, ?d50_49xy6⟩) (by assumption) ?d50_49xr6
            case d50_49xy6 => (intro w hSw; (try dsimp only at hSw); go_simp; try with_reducible rfl)
            (try simp only [Act.put])
            (try simp only [List.setIfInBounds_toArray])
            (try simp only [List.set_cons_succ])
            (try simp only [List.set_cons_zero])
            refine wpAnyH_take (i := 7) (oi := { dst := some 82, op := Op.extract (Operand.tmp 75) 2, type := 4, pos := "law.go:37", after := #[{ on := 4, ground := Ground.data }, { on := 12, ground := Ground.gcOnly Departure.lateStores }], guard := none }) (v := ?d50_50xv7) rfl (by kernel_rfl) (by kernel_rfl) (by kernel_rfl) (fun _ _ _ h => hQP _ _ _ _ _ h) (Or.inl ⟨by rfl, ?d50_50xy7⟩) (by assumption) ?d50_50xr7
            case d50_50xy7 => (intro w hSw; (try dsimp only at hSw); go_simp; try with_reducible rfl)
            (try simp only [Act.put])
            (try simp only [List.setIfInBounds_toArray])
            (try simp only [List.set_cons_succ])
            (try simp only [List.set_cons_zero])
            refine wpAnyH_take (i := 8) (oi := { dst := some 83, op := Op.extract (Operand.tmp 75) 3, type := 32, pos := "law.go:37", after := #[{ on := 4, ground := Ground.data }, { on := 13, ground := Ground.gcOnly Departure.lateStores }], guard := none }) (v := ?d50_51xv8) rfl (by kernel_rfl) (by kernel_rfl) (by kernel_rfl) (fun _ _ _ h => hQP _ _ _ _ _ h) (Or.inl ⟨by rfl, ?d50_51xy8⟩) (by assumption) ?d50_51xr8
            case d50_51xy8 => (intro w hSw; (try dsimp only at hSw); go_simp; try with_reducible rfl)
            (try simp only [Act.put])
            (try simp only [List.setIfInBounds_toArray])
            (try simp only [List.set_cons_succ])
            (try simp only [List.set_cons_zero])
            exact TL.out _ _ _ b20 b21 p20 q20 _ B20 B21 KK BB (by omega) (by omega) (by omega) (by kernel_rfl) (by rfl) (by rfl)
          refine AllReadyH.cons (o := { dst := some 20, op := Op.alloc 31, type := 0, pos := "law.go:37", after := #[], guard := none }) rfl (fun K hK => ?_) AllReadyH.nil
          go_simp
          have hlt_b20 := BB.out.size
          have hlt_b20_B21 := B21.out.lt
          have hle_b20_KK := KK.out.le
          have KK' := Lib.hid (KK.out.below (below_new v44 (.cells #[.slice none 0 0, .slice none 0 0] 31)))
          have MM' := Lib.hid (MM.out.below (below_new v44 (.cells #[.slice none 0 0, .slice none 0 0] 31)))
          have B21' := Lib.hid (B21.out.below (below_new v44 (.cells #[.slice none 0 0, .slice none 0 0] 31)))
          have BB' := Lib.hid (BB.out.trans ((below_new v44 (.cells #[.slice none 0 0, .slice none 0 0] 31)).mono BB.out.size))
          clear KK
          have KK := KK'
          clear KK'
          clear MM
          have MM := MM'
          clear MM'
          clear B21
          have B21 := B21'
          clear B21'
          clear BB
          have BB := BB'
          clear BB'
          have B20 := Lib.hid (Box.new v44 #[.slice none 0 0, .slice none 0 0] 31 rfl)
          generalize World.alloc v44 (.cells #[.slice none 0 0, .slice none 0 0] 31) = v50 at *
          generalize World.heap v44 = hp_b20 at *
          generalize hp_b20.size = b20 at *
          refine hK.out _ _ ?_ (fun hHeld => ?_)
          · exact ⟨KK.out.x1.cells2.1.1, KK.out.x1.cells2.1.2⟩
          clear hK K
          (try simp only [Act.put])
          (try simp only [List.setIfInBounds_toArray])
          (try simp only [List.set_cons_succ])
          (try simp only [List.set_cons_zero])
          refine wpAnyH_ready (rs := [2]) (by kernel_rfl) (by simp) ?_
          refine AllReadyH.cons (o := { dst := some 78, op := Op.call { callee := Callee.value (Operand.func 29), args := #[Operand.const (Value.int IntKind.i64 5)], argTypes := #[2] }, type := 45, pos := "law.go:37", after := #[{ on := 1, ground := Ground.chain }], guard := none }) rfl (fun K hK => ?_) AllReadyH.nil
          go_simp
          go_at_call 29
          refine (word_any 5 _).mono ?_
          rintro e v51 ⟨rfl, hb⟩
          have KK' := Lib.hid (KK.out.below (hb))
          have MM' := Lib.hid (MM.out.below (hb))
          have B21' := Lib.hid (B21.out.below (hb))
          have B20' := Lib.hid (B20.out.below (hb))
          have BB' := Lib.hid (BB.out.trans ((hb).mono BB.out.size))
          clear KK
          have KK := KK'
          clear KK'
          clear MM
          have MM := MM'
          clear MM'
          clear B21
          have B21 := B21'
          clear B21'
          clear B20
          have B20 := B20'
          clear B20'
          clear BB
          have BB := BB'
          clear BB'
          clear hb
          go_simp
          refine hK.out _ _ ?_ (fun hHeld => ?_)
          · exact ⟨KK.out.x1.cells2.1.1, KK.out.x1.cells2.1.2⟩
          clear hK K
          (try simp only [Act.put])
          (try simp only [List.setIfInBounds_toArray])
          (try simp only [List.set_cons_succ])
          (try simp only [List.set_cons_zero])
          refine wpAnyH_ready (rs := [3]) (by kernel_rfl) (by simp) ?_
          refine AllReadyH.cons (o := { dst := some 79, op := Op.call { callee := Callee.value (Operand.func 28), args := #[Operand.tmp 76, Operand.const (Value.int IntKind.i64 2), Operand.const (Value.int IntKind.i64 1), Operand.tmp 77, Operand.tmp 78], argTypes := #[31, 3, 42, 45, 45] }, type := 50, pos := "law.go:37", after := #[{ on := 0, ground := Ground.data }, { on := 1, ground := Ground.data }, { on := 2, ground := Ground.data }, { on := 2, ground := Ground.chain }], guard := none }) rfl (fun K hK => ?_) AllReadyH.nil
          go_simp
          go_at_call 28
          refine (swap_miss _ _ A2 3 1 1 0 0 0 5 0 0 _ _ MM.out good2 (by omega) (by rw [n2.2]; omega) (by rw [n2.1]; omega) sw9).mono ?_
          rintro e v52 ⟨pv, vv, rfl, hm, hb⟩
          have KK' := Lib.hid (KK.out.below (hb))
          have MM' := Lib.hid (MM.out.below (hb))
          have B21' := Lib.hid (B21.out.below (hb))
          have B20' := Lib.hid (B20.out.below (hb))
          have BB' := Lib.hid (BB.out.trans ((hb).mono BB.out.size))
          clear KK
          have KK := KK'
          clear KK'
          clear MM
          have MM := MM'
          clear MM'
          clear B21
          have B21 := B21'
          clear B21'
          clear B20
          have B20 := B20'
          clear B20'
          clear BB
          have BB := BB'
          clear BB'
          clear hb
          clear MM
          obtain ⟨p20, q20, e1, e2⟩ := sl9 hm
          subst e1 e2
          clear hm
          rw [l2, w3]
          go_simp
          refine hK.out _ _ ?_ (fun hHeld => ?_)
          · exact ⟨KK.out.x1.cells2.1.1, KK.out.x1.cells2.1.2⟩
          clear hK K
          (try simp only [Act.put])
          (try simp only [List.setIfInBounds_toArray])
          (try simp only [List.set_cons_succ])
          (try simp only [List.set_cons_zero])
          refine wpAnyH_take (i := 4) (oi := { dst := some 75, op := Op.move (Operand.tmp 79), type := 50, pos := "law.go:37", after := #[{ on := 3, ground := Ground.data }], guard := none }) (v := ?d53_52xv4) rfl (by kernel_rfl) (by kernel_rfl) (by kernel_rfl) (fun _ _ _ h => hQP _ _ _ _ _ h) (Or.inl ⟨by rfl, ?d53_52xy4⟩) (by assumption) ?d53_52xr4
          case d53_52xy4 => (intro w hSw; (try dsimp only at hSw); go_simp; try with_reducible rfl)
          (try simp only [Act.put])
          (try simp only [List.setIfInBounds_toArray])
          (try simp only [List.set_cons_succ])
          (try simp only [List.set_cons_zero])
          refine wpAnyH_take (i := 5) (oi := { dst := some 80, op := Op.extract (Operand.tmp 75) 0, type := 31, pos := "law.go:37", after := #[{ on := 4, ground := Ground.data }], guard := none }) (v := ?d53_53xv5) rfl (by kernel_rfl) (by kernel_rfl) (by kernel_rfl) (fun _ _ _ h => hQP _ _ _ _ _ h) (Or.inl ⟨by rfl, ?d53_53xy5⟩) (by assumption) ?d53_53xr5
          case d53_53xy5 => (intro w hSw; (try dsimp only at hSw); go_simp; try with_reducible rfl)
          (try simp only [Act.put])
          (try simp only [List.setIfInBounds_toArray])
          (try simp only [List.set_cons_succ])
          (try simp only [List.set_cons_zero])
          refine wpAnyH_take (i := 6) (oi := { dst := some 81, op := Op.extract (Operand.tmp 75) 1, type := 45, pos := "law.go:37", after := #[{ on := 4, ground := Ground.data }, { on := 11, ground := Ground.gcOnly Departure.lateStores }], guard := none }) (v := ?d53_54xv6) rfl (by kernel_rfl) (by kernel_rfl) (by kernel_rfl) (fun _ _ _ h => hQP _ _ _ _ _ h) (Or.inl ⟨by rfl, ?d53_54xy6⟩) (by assumption) ?d53_54xr6
          case d53_54xy6 => (intro w hSw; (try dsimp only at hSw); go_simp; try with_reducible rfl)
          (try simp only [Act.put])
          (try simp only [List.setIfInBounds_toArray])
          (try simp only [List.set_cons_succ])
          (try simp only [List.set_cons_zero])
          refine wpAnyH_take (i := 7) (oi := { dst := some 82, op := Op.extract (Operand.tmp 75) 2, type := 4, pos := "law.go:37", after := #[{ on := 4, ground := Ground.data }, { on := 12, ground := Ground.gcOnly Departure.lateStores }], guard := none }) (v := ?d53_55xv7) rfl (by kernel_rfl) (by kernel_rfl) (by kernel_rfl) (fun _ _ _ h => hQP _ _ _ _ _ h) (Or.inl ⟨by rfl, ?d53_55xy7⟩) (by assumption) ?d53_55xr7
          case d53_55xy7 => (intro w hSw; (try dsimp only at hSw); go_simp; try with_reducible rfl)
          (try simp only [Act.put])
          (try simp only [List.setIfInBounds_toArray])
          (try simp only [List.set_cons_succ])
          (try simp only [List.set_cons_zero])
          refine wpAnyH_take (i := 8) (oi := { dst := some 83, op := Op.extract (Operand.tmp 75) 3, type := 32, pos := "law.go:37", after := #[{ on := 4, ground := Ground.data }, { on := 13, ground := Ground.gcOnly Departure.lateStores }], guard := none }) (v := ?d53_56xv8) rfl (by kernel_rfl) (by kernel_rfl) (by kernel_rfl) (fun _ _ _ h => hQP _ _ _ _ _ h) (Or.inl ⟨by rfl, ?d53_56xy8⟩) (by assumption) ?d53_56xr8
          case d53_56xy8 => (intro w hSw; (try dsimp only at hSw); go_simp; try with_reducible rfl)
          (try simp only [Act.put])
          (try simp only [List.setIfInBounds_toArray])
          (try simp only [List.set_cons_succ])
          (try simp only [List.set_cons_zero])
          exact TL.out _ _ _ b20 b21 p20 q20 _ B20 B21 KK BB (by omega) (by omega) (by omega) (by kernel_rfl) (by rfl) (by rfl)
        refine AllReadyH.cons (o := { dst := some 20, op := Op.alloc 31, type := 0, pos := "law.go:37", after := #[], guard := none }) rfl (fun K hK => ?_) ?_
        · skip
          go_simp
          have hlt_b20 := BB.out.size
          have hle_b20_KK := KK.out.le
          have KK' := Lib.hid (KK.out.below (below_new V17 (.cells #[.slice none 0 0, .slice none 0 0] 31)))
          have MM' := Lib.hid (MM.out.below (below_new V17 (.cells #[.slice none 0 0, .slice none 0 0] 31)))
          have BB' := Lib.hid (BB.out.trans ((below_new V17 (.cells #[.slice none 0 0, .slice none 0 0] 31)).mono BB.out.size))
          clear KK
          have KK := KK'
          clear KK'
          clear MM
          have MM := MM'
          clear MM'
          clear BB
          have BB := BB'
          clear BB'
          have B20 := Lib.hid (Box.new V17 #[.slice none 0 0, .slice none 0 0] 31 rfl)
          generalize World.alloc V17 (.cells #[.slice none 0 0, .slice none 0 0] 31) = v53 at *
          generalize World.heap V17 = hp_b20 at *
          generalize hp_b20.size = b20 at *
          refine hK.out _ _ ?_ (fun hHeld => ?_)
          · exact ⟨KK.out.x1.cells2.1.1, KK.out.x1.cells2.1.2⟩
          clear hK K
          (try simp only [Act.put])
          (try simp only [List.setIfInBounds_toArray])
          (try simp only [List.set_cons_succ])
          (try simp only [List.set_cons_zero])
          refine wpAnyH_ready (rs := [1, 10]) (by kernel_rfl) (by simp) ?_
          refine AllReadyH.cons (o := { dst := some 77, op := Op.call { callee := Callee.value (Operand.func 29), args := #[Operand.const (Value.int IntKind.i64 0)], argTypes := #[2] }, type := 45, pos := "law.go:37", after := #[], guard := none }) rfl (fun K hK => ?_) ?_
          · skip
            go_simp
            go_at_call 29
            refine (word_any 0 _).mono ?_
            rintro e v54 ⟨rfl, hb⟩
            have KK' := Lib.hid (KK.out.below (hb))
            have MM' := Lib.hid (MM.out.below (hb))
            have B20' := Lib.hid (B20.out.below (hb))
            have BB' := Lib.hid (BB.out.trans ((hb).mono BB.out.size))
            clear KK
            have KK := KK'
            clear KK'
            clear MM
            have MM := MM'
            clear MM'
            clear B20
            have B20 := B20'
            clear B20'
            clear BB
            have BB := BB'
            clear BB'
            clear hb
            go_simp
            refine hK.out _ _ ?_ (fun hHeld => ?_)
            · exact ⟨KK.out.x1.cells2.1.1, KK.out.x1.cells2.1.2⟩
            clear hK K
            (try simp only [Act.put])
            (try simp only [List.setIfInBounds_toArray])
            (try simp only [List.set_cons_succ])
            (try simp only [List.set_cons_zero])
            refine wpAnyH_ready (rs := [2, 10]) (by kernel_rfl) (by simp) ?_
            refine AllReadyH.cons (o := { dst := some 78, op := Op.call { callee := Callee.value (Operand.func 29), args := #[Operand.const (Value.int IntKind.i64 5)], argTypes := #[2] }, type := 45, pos := "law.go:37", after := #[{ on := 1, ground := Ground.chain }], guard := none }) rfl (fun K hK => ?_) ?_
            · skip
              go_simp
              go_at_call 29
              refine (word_any 5 _).mono ?_
              rintro e v55 ⟨rfl, hb⟩
              have KK' := Lib.hid (KK.out.below (hb))
              have MM' := Lib.hid (MM.out.below (hb))
              have B20' := Lib.hid (B20.out.below (hb))
              have BB' := Lib.hid (BB.out.trans ((hb).mono BB.out.size))
              clear KK
              have KK := KK'
              clear KK'
              clear MM
              have MM := MM'
              clear MM'
              clear B20
              have B20 := B20'
              clear B20'
              clear BB
              have BB := BB'
              clear BB'
              clear hb
              go_simp
              refine hK.out _ _ ?_ (fun hHeld => ?_)
              · exact ⟨KK.out.x1.cells2.1.1, KK.out.x1.cells2.1.2⟩
              clear hK K
              (try simp only [Act.put])
              (try simp only [List.setIfInBounds_toArray])
              (try simp only [List.set_cons_succ])
              (try simp only [List.set_cons_zero])
              refine wpAnyH_ready (rs := [3, 10]) (by kernel_rfl) (by simp) ?_
              refine AllReadyH.cons (o := { dst := some 79, op := Op.call { callee := Callee.value (Operand.func 28), args := #[Operand.tmp 76, Operand.const (Value.int IntKind.i64 2), Operand.const (Value.int IntKind.i64 1), Operand.tmp 77, Operand.tmp 78], argTypes := #[31, 3, 42, 45, 45] }, type := 50, pos := "law.go:37", after := #[{ on := 0, ground := Ground.data }, { on := 1, ground := Ground.data }, { on := 2, ground := Ground.data }, { on := 2, ground := Ground.chain }], guard := none }) rfl (fun K hK => ?_) ?_
              · skip
                go_simp
                go_at_call 28
                refine (swap_miss _ _ A2 3 1 1 0 0 0 5 0 0 _ _ MM.out good2 (by omega) (by rw [n2.2]; omega) (by rw [n2.1]; omega) sw9).mono ?_
                rintro e v56 ⟨pv, vv, rfl, hm, hb⟩
                have KK' := Lib.hid (KK.out.below (hb))
                have MM' := Lib.hid (MM.out.below (hb))
                have B20' := Lib.hid (B20.out.below (hb))
                have BB' := Lib.hid (BB.out.trans ((hb).mono BB.out.size))
                clear KK
                have KK := KK'
                clear KK'
                clear MM
                have MM := MM'
                clear MM'
                clear B20
                have B20 := B20'
                clear B20'
                clear BB
                have BB := BB'
                clear BB'
                clear hb
                clear MM
                obtain ⟨p20, q20, e1, e2⟩ := sl9 hm
                subst e1 e2
                clear hm
                rw [l2, w3]
                go_simp
                refine hK.out _ _ ?_ (fun hHeld => ?_)
                · exact ⟨KK.out.x1.cells2.1.1, KK.out.x1.cells2.1.2⟩
                clear hK K
                (try simp only [Act.put])
                (try simp only [List.setIfInBounds_toArray])
                (try simp only [List.set_cons_succ])
                (try simp only [List.set_cons_zero])
                refine wpAnyH_take (i := 4) (oi := { dst := some 75, op := Op.move (Operand.tmp 79), type := 50, pos := "law.go:37", after := #[{ on := 3, ground := Ground.data }], guard := none }) (v := ?d57_57xv4) rfl (by kernel_rfl) (by kernel_rfl) (by kernel_rfl) (fun _ _ _ h => hQP _ _ _ _ _ h) (Or.inl ⟨by rfl, ?d57_57xy4⟩) (by assumption) ?d57_57xr4
                case d57_57xy4 => (intro w hSw; (try dsimp only at hSw); go_simp; try with_reducible rfl)
                (try simp only [Act.put])
                (try simp only [List.setIfInBounds_toArray])
                (try simp only [List.set_cons_succ])
                (try simp only [List.set_cons_zero])
                refine wpAnyH_take (i := 5) (oi := { dst := some 80, op := Op.extract (Operand.tmp 75) 0, type := 31, pos := "law.go:37", after := #[{ on := 4, ground := Ground.data }], guard := none }) (v := ?d57_58xv5) rfl (by kernel_rfl) (by kernel_rfl) (by kernel_rfl) (fun _ _ _ h => hQP _ _ _ _ _ h) (Or.inl ⟨by rfl, ?d57_58xy5⟩) (by assumption) ?d57_58xr5
                case d57_58xy5 => (intro w hSw; (try dsimp only at hSw); go_simp; try with_reducible rfl)
                (try simp only [Act.put])
                (try simp only [List.setIfInBounds_toArray])
                (try simp only [List.set_cons_succ])
                (try simp only [List.set_cons_zero])
                refine wpAnyH_take (i := 6) (oi := { dst := some 81, op := Op.extract (Operand.tmp 75) 1, type := 45, pos := "law.go:37", after := #[{ on := 4, ground := Ground.data }, { on := 11, ground := Ground.gcOnly Departure.lateStores }], guard := none }) (v := ?d57_59xv6) rfl (by kernel_rfl) (by kernel_rfl) (by kernel_rfl) (fun _ _ _ h => hQP _ _ _ _ _ h) (Or.inl ⟨by rfl, ?d57_59xy6⟩) (by assumption) ?d57_59xr6
                case d57_59xy6 => (intro w hSw; (try dsimp only at hSw); go_simp; try with_reducible rfl)
                (try simp only [Act.put])
                (try simp only [List.setIfInBounds_toArray])
                (try simp only [List.set_cons_succ])
                (try simp only [List.set_cons_zero])
                refine wpAnyH_take (i := 7) (oi := { dst := some 82, op := Op.extract (Operand.tmp 75) 2, type := 4, pos := "law.go:37", after := #[{ on := 4, ground := Ground.data }, { on := 12, ground := Ground.gcOnly Departure.lateStores }], guard := none }) (v := ?d57_60xv7) rfl (by kernel_rfl) (by kernel_rfl) (by kernel_rfl) (fun _ _ _ h => hQP _ _ _ _ _ h) (Or.inl ⟨by rfl, ?d57_60xy7⟩) (by assumption) ?d57_60xr7
                case d57_60xy7 => (intro w hSw; (try dsimp only at hSw); go_simp; try with_reducible rfl)
                (try simp only [Act.put])
                (try simp only [List.setIfInBounds_toArray])
                (try simp only [List.set_cons_succ])
                (try simp only [List.set_cons_zero])
                refine wpAnyH_take (i := 8) (oi := { dst := some 83, op := Op.extract (Operand.tmp 75) 3, type := 32, pos := "law.go:37", after := #[{ on := 4, ground := Ground.data }, { on := 13, ground := Ground.gcOnly Departure.lateStores }], guard := none }) (v := ?d57_61xv8) rfl (by kernel_rfl) (by kernel_rfl) (by kernel_rfl) (fun _ _ _ h => hQP _ _ _ _ _ h) (Or.inl ⟨by rfl, ?d57_61xy8⟩) (by assumption) ?d57_61xr8
                case d57_61xy8 => (intro w hSw; (try dsimp only at hSw); go_simp; try with_reducible rfl)
                (try simp only [Act.put])
                (try simp only [List.setIfInBounds_toArray])
                (try simp only [List.set_cons_succ])
                (try simp only [List.set_cons_zero])
                refine wpAnyH_ready (rs := [10]) (by kernel_rfl) (by simp) ?_
                refine AllReadyH.cons (o := { dst := some 21, op := Op.alloc 45, type := 0, pos := "law.go:37", after := #[], guard := none }) rfl (fun K hK => ?_) AllReadyH.nil
                go_simp
                have hlt_b21 := BB.out.size
                have hlt_b21_B20 := B20.out.lt
                have hle_b21_KK := KK.out.le
                have KK' := Lib.hid (KK.out.below (below_new v56 (.cells #[.int .i64 0, .int .u32 0, .int .u32 0] 45)))
                have B20' := Lib.hid (B20.out.below (below_new v56 (.cells #[.int .i64 0, .int .u32 0, .int .u32 0] 45)))
                have BB' := Lib.hid (BB.out.trans ((below_new v56 (.cells #[.int .i64 0, .int .u32 0, .int .u32 0] 45)).mono BB.out.size))
                clear KK
                have KK := KK'
                clear KK'
                clear B20
                have B20 := B20'
                clear B20'
                clear BB
                have BB := BB'
                clear BB'
                have B21 := Lib.hid (Box.new v56 #[.int .i64 0, .int .u32 0, .int .u32 0] 45 rfl)
                generalize World.alloc v56 (.cells #[.int .i64 0, .int .u32 0, .int .u32 0] 45) = v57 at *
                generalize World.heap v56 = hp_b21 at *
                generalize hp_b21.size = b21 at *
                refine hK.out _ _ ?_ (fun hHeld => ?_)
                · exact ⟨KK.out.x1.cells2.1.1, KK.out.x1.cells2.1.2⟩
                clear hK K
                (try simp only [Act.put])
                (try simp only [List.setIfInBounds_toArray])
                (try simp only [List.set_cons_succ])
                (try simp only [List.set_cons_zero])
                exact TL.out _ _ _ b20 b21 p20 q20 _ B20 B21 KK BB (by omega) (by omega) (by omega) (by kernel_rfl) (by rfl) (by rfl)
              refine AllReadyH.cons (o := { dst := some 21, op := Op.alloc 45, type := 0, pos := "law.go:37", after := #[], guard := none }) rfl (fun K hK => ?_) AllReadyH.nil
              go_simp
              have hlt_b21 := BB.out.size
              have hlt_b21_B20 := B20.out.lt
              have hle_b21_KK := KK.out.le
              have KK' := Lib.hid (KK.out.below (below_new v55 (.cells #[.int .i64 0, .int .u32 0, .int .u32 0] 45)))
              have MM' := Lib.hid (MM.out.below (below_new v55 (.cells #[.int .i64 0, .int .u32 0, .int .u32 0] 45)))
              have B20' := Lib.hid (B20.out.below (below_new v55 (.cells #[.int .i64 0, .int .u32 0, .int .u32 0] 45)))
              have BB' := Lib.hid (BB.out.trans ((below_new v55 (.cells #[.int .i64 0, .int .u32 0, .int .u32 0] 45)).mono BB.out.size))
              clear KK
              have KK := KK'
              clear KK'
              clear MM
              have MM := MM'
              clear MM'
              clear B20
              have B20 := B20'
              clear B20'
              clear BB
              have BB := BB'
              clear BB'
              have B21 := Lib.hid (Box.new v55 #[.int .i64 0, .int .u32 0, .int .u32 0] 45 rfl)
              generalize World.alloc v55 (.cells #[.int .i64 0, .int .u32 0, .int .u32 0] 45) = v58 at *
              generalize World.heap v55 = hp_b21 at *
              generalize hp_b21.size = b21 at *
              refine hK.out _ _ ?_ (fun hHeld => ?_)
              · exact ⟨KK.out.x1.cells2.1.1, KK.out.x1.cells2.1.2⟩
              clear hK K
              (try simp only [Act.put])
              (try simp only [List.setIfInBounds_toArray])
              (try simp only [List.set_cons_succ])
              (try simp only [List.set_cons_zero])
              refine wpAnyH_ready (rs := [3]) (by kernel_rfl) (by simp) ?_
              refine AllReadyH.cons (o := { dst := some 79, op := Op.call { callee := Callee.value (Operand.func 28), args := #[Operand.tmp 76, Operand.const (Value.int IntKind.i64 2), Operand.const (Value.int IntKind.i64 1), Operand.tmp 77, Operand.tmp 78], argTypes := #[31, 3, 42, 45, 45] }, type := 50, pos := "law.go:37", after := #[{ on := 0, ground := Ground.data }, { on := 1, ground := Ground.data }, { on := 2, ground := Ground.data }, { on := 2, ground := Ground.chain }], guard := none }) rfl (fun K hK => ?_) AllReadyH.nil
              go_simp
              go_at_call 28
              refine (swap_miss _ _ A2 3 1 1 0 0 0 5 0 0 _ _ MM.out good2 (by omega) (by rw [n2.2]; omega) (by rw [n2.1]; omega) sw9).mono ?_
              rintro e v59 ⟨pv, vv, rfl, hm, hb⟩
              have KK' := Lib.hid (KK.out.below (hb))
              have MM' := Lib.hid (MM.out.below (hb))
              have B20' := Lib.hid (B20.out.below (hb))
              have B21' := Lib.hid (B21.out.below (hb))
              have BB' := Lib.hid (BB.out.trans ((hb).mono BB.out.size))
              clear KK
              have KK := KK'
              clear KK'
              clear MM
              have MM := MM'
              clear MM'
              clear B20
              have B20 := B20'
              clear B20'
              clear B21
              have B21 := B21'
              clear B21'
              clear BB
              have BB := BB'
              clear BB'
              clear hb
              clear MM
              obtain ⟨p20, q20, e1, e2⟩ := sl9 hm
              subst e1 e2
              clear hm
              rw [l2, w3]
              go_simp
              refine hK.out _ _ ?_ (fun hHeld => ?_)
              · exact ⟨KK.out.x1.cells2.1.1, KK.out.x1.cells2.1.2⟩
              clear hK K
              (try simp only [Act.put])
              (try simp only [List.setIfInBounds_toArray])
              (try simp only [List.set_cons_succ])
              (try simp only [List.set_cons_zero])
              refine wpAnyH_take (i := 4) (oi := { dst := some 75, op := Op.move (Operand.tmp 79), type := 50, pos := "law.go:37", after := #[{ on := 3, ground := Ground.data }], guard := none }) (v := ?d60_62xv4) rfl (by kernel_rfl) (by kernel_rfl) (by kernel_rfl) (fun _ _ _ h => hQP _ _ _ _ _ h) (Or.inl ⟨by rfl, ?d60_62xy4⟩) (by assumption) ?d60_62xr4
              case d60_62xy4 => (intro w hSw; (try dsimp only at hSw); go_simp; try with_reducible rfl)
              (try simp only [Act.put])
              (try simp only [List.setIfInBounds_toArray])
              (try simp only [List.set_cons_succ])
              (try simp only [List.set_cons_zero])
              refine wpAnyH_take (i := 5) (oi := { dst := some 80, op := Op.extract (Operand.tmp 75) 0, type := 31, pos := "law.go:37", after := #[{ on := 4, ground := Ground.data }], guard := none }) (v := ?d60_63xv5) rfl (by kernel_rfl) (by kernel_rfl) (by kernel_rfl) (fun _ _ _ h => hQP _ _ _ _ _ h) (Or.inl ⟨by rfl, ?d60_63xy5⟩) (by assumption) ?d60_63xr5
              case d60_63xy5 => (intro w hSw; (try dsimp only at hSw); go_simp; try with_reducible rfl)
              (try simp only [Act.put])
              (try simp only [List.setIfInBounds_toArray])
              (try simp only [List.set_cons_succ])
              (try simp only [List.set_cons_zero])
              refine wpAnyH_take (i := 6) (oi := { dst := some 81, op := Op.extract (Operand.tmp 75) 1, type := 45, pos := "law.go:37", after := #[{ on := 4, ground := Ground.data }, { on := 11, ground := Ground.gcOnly Departure.lateStores }], guard := none }) (v := ?d60_64xv6) rfl (by kernel_rfl) (by kernel_rfl) (by kernel_rfl) (fun _ _ _ h => hQP _ _ _ _ _ h) (Or.inl ⟨by rfl, ?d60_64xy6⟩) (by assumption) ?d60_64xr6
              case d60_64xy6 => (intro w hSw; (try dsimp only at hSw); go_simp; try with_reducible rfl)
              (try simp only [Act.put])
              (try simp only [List.setIfInBounds_toArray])
              (try simp only [List.set_cons_succ])
              (try simp only [List.set_cons_zero])
              refine wpAnyH_take (i := 7) (oi := { dst := some 82, op := Op.extract (Operand.tmp 75) 2, type := 4, pos := "law.go:37", after := #[{ on := 4, ground := Ground.data }, { on := 12, ground := Ground.gcOnly Departure.lateStores }], guard := none }) (v := ?d60_65xv7) rfl (by kernel_rfl) (by kernel_rfl) (by kernel_rfl) (fun _ _ _ h => hQP _ _ _ _ _ h) (Or.inl ⟨by rfl, ?d60_65xy7⟩) (by assumption) ?d60_65xr7
              case d60_65xy7 => (intro w hSw; (try dsimp only at hSw); go_simp; try with_reducible rfl)
              (try simp only [Act.put])
              (try simp only [List.setIfInBounds_toArray])
              (try simp only [List.set_cons_succ])
              (try simp only [List.set_cons_zero])
              refine wpAnyH_take (i := 8) (oi := { dst := some 83, op := Op.extract (Operand.tmp 75) 3, type := 32, pos := "law.go:37", after := #[{ on := 4, ground := Ground.data }, { on := 13, ground := Ground.gcOnly Departure.lateStores }], guard := none }) (v := ?d60_66xv8) rfl (by kernel_rfl) (by kernel_rfl) (by kernel_rfl) (fun _ _ _ h => hQP _ _ _ _ _ h) (Or.inl ⟨by rfl, ?d60_66xy8⟩) (by assumption) ?d60_66xr8
              case d60_66xy8 => (intro w hSw; (try dsimp only at hSw); go_simp; try with_reducible rfl)
              (try simp only [Act.put])
              (try simp only [List.setIfInBounds_toArray])
              (try simp only [List.set_cons_succ])
              (try simp only [List.set_cons_zero])
              exact TL.out _ _ _ b20 b21 p20 q20 _ B20 B21 KK BB (by omega) (by omega) (by omega) (by kernel_rfl) (by rfl) (by rfl)
            refine AllReadyH.cons (o := { dst := some 21, op := Op.alloc 45, type := 0, pos := "law.go:37", after := #[], guard := none }) rfl (fun K hK => ?_) AllReadyH.nil
            go_simp
            have hlt_b21 := BB.out.size
            have hlt_b21_B20 := B20.out.lt
            have hle_b21_KK := KK.out.le
            have KK' := Lib.hid (KK.out.below (below_new v54 (.cells #[.int .i64 0, .int .u32 0, .int .u32 0] 45)))
            have MM' := Lib.hid (MM.out.below (below_new v54 (.cells #[.int .i64 0, .int .u32 0, .int .u32 0] 45)))
            have B20' := Lib.hid (B20.out.below (below_new v54 (.cells #[.int .i64 0, .int .u32 0, .int .u32 0] 45)))
            have BB' := Lib.hid (BB.out.trans ((below_new v54 (.cells #[.int .i64 0, .int .u32 0, .int .u32 0] 45)).mono BB.out.size))
            clear KK
            have KK := KK'
            clear KK'
            clear MM
            have MM := MM'
            clear MM'
            clear B20
            have B20 := B20'
            clear B20'
            clear BB
            have BB := BB'
            clear BB'
            have B21 := Lib.hid (Box.new v54 #[.int .i64 0, .int .u32 0, .int .u32 0] 45 rfl)
            generalize World.alloc v54 (.cells #[.int .i64 0, .int .u32 0, .int .u32 0] 45) = v60 at *
            generalize World.heap v54 = hp_b21 at *
            generalize hp_b21.size = b21 at *
            refine hK.out _ _ ?_ (fun hHeld => ?_)
            · exact ⟨KK.out.x1.cells2.1.1, KK.out.x1.cells2.1.2⟩
            clear hK K
            (try simp only [Act.put])
            (try simp only [List.setIfInBounds_toArray])
            (try simp only [List.set_cons_succ])
            (try simp only [List.set_cons_zero])
            refine wpAnyH_ready (rs := [2]) (by kernel_rfl) (by simp) ?_
            refine AllReadyH.cons (o := { dst := some 78, op := Op.call { callee := Callee.value (Operand.func 29), args := #[Operand.const (Value.int IntKind.i64 5)], argTypes := #[2] }, type := 45, pos := "law.go:37", after := #[{ on := 1, ground := Ground.chain }], guard := none }) rfl (fun K hK => ?_) AllReadyH.nil
            go_simp
            go_at_call 29
            refine (word_any 5 _).mono ?_
            rintro e v61 ⟨rfl, hb⟩
            have KK' := Lib.hid (KK.out.below (hb))
            have MM' := Lib.hid (MM.out.below (hb))
            have B20' := Lib.hid (B20.out.below (hb))
            have B21' := Lib.hid (B21.out.below (hb))
            have BB' := Lib.hid (BB.out.trans ((hb).mono BB.out.size))
            clear KK
            have KK := KK'
            clear KK'
            clear MM
            have MM := MM'
            clear MM'
            clear B20
            have B20 := B20'
            clear B20'
            clear B21
            have B21 := B21'
            clear B21'
            clear BB
            have BB := BB'
            clear BB'
            clear hb
            go_simp
            refine hK.out _ _ ?_ (fun hHeld => ?_)
            · exact ⟨KK.out.x1.cells2.1.1, KK.out.x1.cells2.1.2⟩
            clear hK K
            (try simp only [Act.put])
            (try simp only [List.setIfInBounds_toArray])
            (try simp only [List.set_cons_succ])
            (try simp only [List.set_cons_zero])
            refine wpAnyH_ready (rs := [3]) (by kernel_rfl) (by simp) ?_
            refine AllReadyH.cons (o := { dst := some 79, op := Op.call { callee := Callee.value (Operand.func 28), args := #[Operand.tmp 76, Operand.const (Value.int IntKind.i64 2), Operand.const (Value.int IntKind.i64 1), Operand.tmp 77, Operand.tmp 78], argTypes := #[31, 3, 42, 45, 45] }, type := 50, pos := "law.go:37", after := #[{ on := 0, ground := Ground.data }, { on := 1, ground := Ground.data }, { on := 2, ground := Ground.data }, { on := 2, ground := Ground.chain }], guard := none }) rfl (fun K hK => ?_) AllReadyH.nil
            go_simp
            go_at_call 28
            refine (swap_miss _ _ A2 3 1 1 0 0 0 5 0 0 _ _ MM.out good2 (by omega) (by rw [n2.2]; omega) (by rw [n2.1]; omega) sw9).mono ?_
            rintro e v62 ⟨pv, vv, rfl, hm, hb⟩
            have KK' := Lib.hid (KK.out.below (hb))
            have MM' := Lib.hid (MM.out.below (hb))
            have B20' := Lib.hid (B20.out.below (hb))
            have B21' := Lib.hid (B21.out.below (hb))
            have BB' := Lib.hid (BB.out.trans ((hb).mono BB.out.size))
            clear KK
            have KK := KK'
            clear KK'
            clear MM
            have MM := MM'
            clear MM'
            clear B20
            have B20 := B20'
            clear B20'
            clear B21
            have B21 := B21'
            clear B21'
            clear BB
            have BB := BB'
            clear BB'
            clear hb
            clear MM
            obtain ⟨p20, q20, e1, e2⟩ := sl9 hm
            subst e1 e2
            clear hm
            rw [l2, w3]
            go_simp
            refine hK.out _ _ ?_ (fun hHeld => ?_)
            · exact ⟨KK.out.x1.cells2.1.1, KK.out.x1.cells2.1.2⟩
            clear hK K
            (try simp only [Act.put])
            (try simp only [List.setIfInBounds_toArray])
            (try simp only [List.set_cons_succ])
            (try simp only [List.set_cons_zero])
            refine wpAnyH_take (i := 4) (oi := { dst := some 75, op := Op.move (Operand.tmp 79), type := 50, pos := "law.go:37", after := #[{ on := 3, ground := Ground.data }], guard := none }) (v := ?d63_67xv4) rfl (by kernel_rfl) (by kernel_rfl) (by kernel_rfl) (fun _ _ _ h => hQP _ _ _ _ _ h) (Or.inl ⟨by rfl, ?d63_67xy4⟩) (by assumption) ?d63_67xr4
            case d63_67xy4 => (intro w hSw; (try dsimp only at hSw); go_simp; try with_reducible rfl)
            (try simp only [Act.put])
            (try simp only [List.setIfInBounds_toArray])
            (try simp only [List.set_cons_succ])
            (try simp only [List.set_cons_zero])
            refine wpAnyH_take (i := 5) (oi := { dst := some 80, op := Op.extract (Operand.tmp 75) 0, type := 31, pos := "law.go:37", after := #[{ on := 4, ground := Ground.data }], guard := none }) (v := ?d63_68xv5) rfl (by kernel_rfl) (by kernel_rfl) (by kernel_rfl) (fun _ _ _ h => hQP _ _ _ _ _ h) (Or.inl ⟨by rfl, ?d63_68xy5⟩) (by assumption) ?d63_68xr5
            case d63_68xy5 => (intro w hSw; (try dsimp only at hSw); go_simp; try with_reducible rfl)
            (try simp only [Act.put])
            (try simp only [List.setIfInBounds_toArray])
            (try simp only [List.set_cons_succ])
            (try simp only [List.set_cons_zero])
            refine wpAnyH_take (i := 6) (oi := { dst := some 81, op := Op.extract (Operand.tmp 75) 1, type := 45, pos := "law.go:37", after := #[{ on := 4, ground := Ground.data }, { on := 11, ground := Ground.gcOnly Departure.lateStores }], guard := none }) (v := ?d63_69xv6) rfl (by kernel_rfl) (by kernel_rfl) (by kernel_rfl) (fun _ _ _ h => hQP _ _ _ _ _ h) (Or.inl ⟨by rfl, ?d63_69xy6⟩) (by assumption) ?d63_69xr6
            case d63_69xy6 => (intro w hSw; (try dsimp only at hSw); go_simp; try with_reducible rfl)
            (try simp only [Act.put])
            (try simp only [List.setIfInBounds_toArray])
            (try simp only [List.set_cons_succ])
            (try simp only [List.set_cons_zero])
            refine wpAnyH_take (i := 7) (oi := { dst := some 82, op := Op.extract (Operand.tmp 75) 2, type := 4, pos := "law.go:37", after := #[{ on := 4, ground := Ground.data }, { on := 12, ground := Ground.gcOnly Departure.lateStores }], guard := none }) (v := ?d63_70xv7) rfl (by kernel_rfl) (by kernel_rfl) (by kernel_rfl) (fun _ _ _ h => hQP _ _ _ _ _ h) (Or.inl ⟨by rfl, ?d63_70xy7⟩) (by assumption) ?d63_70xr7
            case d63_70xy7 => (intro w hSw; (try dsimp only at hSw); go_simp; try with_reducible rfl)
            (try simp only [Act.put])
            (try simp only [List.setIfInBounds_toArray])
            (try simp only [List.set_cons_succ])
            (try simp only [List.set_cons_zero])
            refine wpAnyH_take (i := 8) (oi := { dst := some 83, op := Op.extract (Operand.tmp 75) 3, type := 32, pos := "law.go:37", after := #[{ on := 4, ground := Ground.data }, { on := 13, ground := Ground.gcOnly Departure.lateStores }], guard := none }) (v := ?d63_71xv8) rfl (by kernel_rfl) (by kernel_rfl) (by kernel_rfl) (fun _ _ _ h => hQP _ _ _ _ _ h) (Or.inl ⟨by rfl, ?d63_71xy8⟩) (by assumption) ?d63_71xr8
            case d63_71xy8 => (intro w hSw; (try dsimp only at hSw); go_simp; try with_reducible rfl)
            (try simp only [Act.put])
            (try simp only [List.setIfInBounds_toArray])
            (try simp only [List.set_cons_succ])
            (try simp only [List.set_cons_zero])
            exact TL.out _ _ _ b20 b21 p20 q20 _ B20 B21 KK BB (by omega) (by omega) (by omega) (by kernel_rfl) (by rfl) (by rfl)
          refine AllReadyH.cons (o := { dst := some 21, op := Op.alloc 45, type := 0, pos := "law.go:37", after := #[], guard := none }) rfl (fun K hK => ?_) AllReadyH.nil
          go_simp
          have hlt_b21 := BB.out.size
          have hlt_b21_B20 := B20.out.lt
          have hle_b21_KK := KK.out.le
          have KK' := Lib.hid (KK.out.below (below_new v53 (.cells #[.int .i64 0, .int .u32 0, .int .u32 0] 45)))
          have MM' := Lib.hid (MM.out.below (below_new v53 (.cells #[.int .i64 0, .int .u32 0, .int .u32 0] 45)))
          have B20' := Lib.hid (B20.out.below (below_new v53 (.cells #[.int .i64 0, .int .u32 0, .int .u32 0] 45)))
          have BB' := Lib.hid (BB.out.trans ((below_new v53 (.cells #[.int .i64 0, .int .u32 0, .int .u32 0] 45)).mono BB.out.size))
          clear KK
          have KK := KK'
          clear KK'
          clear MM
          have MM := MM'
          clear MM'
          clear B20
          have B20 := B20'
          clear B20'
          clear BB
          have BB := BB'
          clear BB'
          have B21 := Lib.hid (Box.new v53 #[.int .i64 0, .int .u32 0, .int .u32 0] 45 rfl)
          generalize World.alloc v53 (.cells #[.int .i64 0, .int .u32 0, .int .u32 0] 45) = v63 at *
          generalize World.heap v53 = hp_b21 at *
          generalize hp_b21.size = b21 at *
          refine hK.out _ _ ?_ (fun hHeld => ?_)
          · exact ⟨KK.out.x1.cells2.1.1, KK.out.x1.cells2.1.2⟩
          clear hK K
          (try simp only [Act.put])
          (try simp only [List.setIfInBounds_toArray])
          (try simp only [List.set_cons_succ])
          (try simp only [List.set_cons_zero])
          refine wpAnyH_ready (rs := [1]) (by kernel_rfl) (by simp) ?_
          refine AllReadyH.cons (o := { dst := some 77, op := Op.call { callee := Callee.value (Operand.func 29), args := #[Operand.const (Value.int IntKind.i64 0)], argTypes := #[2] }, type := 45, pos := "law.go:37", after := #[], guard := none }) rfl (fun K hK => ?_) AllReadyH.nil
          go_simp
          go_at_call 29
          refine (word_any 0 _).mono ?_
          rintro e v64 ⟨rfl, hb⟩
          have KK' := Lib.hid (KK.out.below (hb))
          have MM' := Lib.hid (MM.out.below (hb))
          have B20' := Lib.hid (B20.out.below (hb))
          have B21' := Lib.hid (B21.out.below (hb))
          have BB' := Lib.hid (BB.out.trans ((hb).mono BB.out.size))
          clear KK
          have KK := KK'
          clear KK'
          clear MM
          have MM := MM'
          clear MM'
          clear B20
          have B20 := B20'
          clear B20'
          clear B21
          have B21 := B21'
          clear B21'
          clear BB
          have BB := BB'
          clear BB'
          clear hb
          go_simp
          refine hK.out _ _ ?_ (fun hHeld => ?_)
          · exact ⟨KK.out.x1.cells2.1.1, KK.out.x1.cells2.1.2⟩
          clear hK K
          (try simp only [Act.put])
          (try simp only [List.setIfInBounds_toArray])
          (try simp only [List.set_cons_succ])
          (try simp only [List.set_cons_zero])
          refine wpAnyH_ready (rs := [2]) (by kernel_rfl) (by simp) ?_
          refine AllReadyH.cons (o := { dst := some 78, op := Op.call { callee := Callee.value (Operand.func 29), args := #[Operand.const (Value.int IntKind.i64 5)], argTypes := #[2] }, type := 45, pos := "law.go:37", after := #[{ on := 1, ground := Ground.chain }], guard := none }) rfl (fun K hK => ?_) AllReadyH.nil
          go_simp
          go_at_call 29
          refine (word_any 5 _).mono ?_
          rintro e v65 ⟨rfl, hb⟩
          have KK' := Lib.hid (KK.out.below (hb))
          have MM' := Lib.hid (MM.out.below (hb))
          have B20' := Lib.hid (B20.out.below (hb))
          have B21' := Lib.hid (B21.out.below (hb))
          have BB' := Lib.hid (BB.out.trans ((hb).mono BB.out.size))
          clear KK
          have KK := KK'
          clear KK'
          clear MM
          have MM := MM'
          clear MM'
          clear B20
          have B20 := B20'
          clear B20'
          clear B21
          have B21 := B21'
          clear B21'
          clear BB
          have BB := BB'
          clear BB'
          clear hb
          go_simp
          refine hK.out _ _ ?_ (fun hHeld => ?_)
          · exact ⟨KK.out.x1.cells2.1.1, KK.out.x1.cells2.1.2⟩
          clear hK K
          (try simp only [Act.put])
          (try simp only [List.setIfInBounds_toArray])
          (try simp only [List.set_cons_succ])
          (try simp only [List.set_cons_zero])
          refine wpAnyH_ready (rs := [3]) (by kernel_rfl) (by simp) ?_
          refine AllReadyH.cons (o := { dst := some 79, op := Op.call { callee := Callee.value (Operand.func 28), args := #[Operand.tmp 76, Operand.const (Value.int IntKind.i64 2), Operand.const (Value.int IntKind.i64 1), Operand.tmp 77, Operand.tmp 78], argTypes := #[31, 3, 42, 45, 45] }, type := 50, pos := "law.go:37", after := #[{ on := 0, ground := Ground.data }, { on := 1, ground := Ground.data }, { on := 2, ground := Ground.data }, { on := 2, ground := Ground.chain }], guard := none }) rfl (fun K hK => ?_) AllReadyH.nil
          go_simp
          go_at_call 28
          refine (swap_miss _ _ A2 3 1 1 0 0 0 5 0 0 _ _ MM.out good2 (by omega) (by rw [n2.2]; omega) (by rw [n2.1]; omega) sw9).mono ?_
          rintro e v66 ⟨pv, vv, rfl, hm, hb⟩
          have KK' := Lib.hid (KK.out.below (hb))
          have MM' := Lib.hid (MM.out.below (hb))
          have B20' := Lib.hid (B20.out.below (hb))
          have B21' := Lib.hid (B21.out.below (hb))
          have BB' := Lib.hid (BB.out.trans ((hb).mono BB.out.size))
          clear KK
          have KK := KK'
          clear KK'
          clear MM
          have MM := MM'
          clear MM'
          clear B20
          have B20 := B20'
          clear B20'
          clear B21
          have B21 := B21'
          clear B21'
          clear BB
          have BB := BB'
          clear BB'
          clear hb
          clear MM
          obtain ⟨p20, q20, e1, e2⟩ := sl9 hm
          subst e1 e2
          clear hm
          rw [l2, w3]
          go_simp
          refine hK.out _ _ ?_ (fun hHeld => ?_)
          · exact ⟨KK.out.x1.cells2.1.1, KK.out.x1.cells2.1.2⟩
          clear hK K
          (try simp only [Act.put])
          (try simp only [List.setIfInBounds_toArray])
          (try simp only [List.set_cons_succ])
          (try simp only [List.set_cons_zero])
          refine wpAnyH_take (i := 4) (oi := { dst := some 75, op := Op.move (Operand.tmp 79), type := 50, pos := "law.go:37", after := #[{ on := 3, ground := Ground.data }], guard := none }) (v := ?d67_72xv4) rfl (by kernel_rfl) (by kernel_rfl) (by kernel_rfl) (fun _ _ _ h => hQP _ _ _ _ _ h) (Or.inl ⟨by rfl, ?d67_72xy4⟩) (by assumption) ?d67_72xr4
          case d67_72xy4 => (intro w hSw; (try dsimp only at hSw); go_simp; try with_reducible rfl)
          (try simp only [Act.put])
          (try simp only [List.setIfInBounds_toArray])
          (try simp only [List.set_cons_succ])
          (try simp only [List.set_cons_zero])
          refine wpAnyH_take (i := 5) (oi := { dst := some 80, op := Op.extract (Operand.tmp 75) 0, type := 31, pos := "law.go:37", after := #[{ on := 4, ground := Ground.data }], guard := none }) (v := ?d67_73xv5) rfl (by kernel_rfl) (by kernel_rfl) (by kernel_rfl) (fun _ _ _ h => hQP _ _ _ _ _ h) (Or.inl ⟨by rfl, ?d67_73xy5⟩) (by assumption) ?d67_73xr5
          case d67_73xy5 => (intro w hSw; (try dsimp only at hSw); go_simp; try with_reducible rfl)
          (try simp only [Act.put])
          (try simp only [List.setIfInBounds_toArray])
          (try simp only [List.set_cons_succ])
          (try simp only [List.set_cons_zero])
          refine wpAnyH_take (i := 6) (oi := { dst := some 81, op := Op.extract (Operand.tmp 75) 1, type := 45, pos := "law.go:37", after := #[{ on := 4, ground := Ground.data }, { on := 11, ground := Ground.gcOnly Departure.lateStores }], guard := none }) (v := ?d67_74xv6) rfl (by kernel_rfl) (by kernel_rfl) (by kernel_rfl) (fun _ _ _ h => hQP _ _ _ _ _ h) (Or.inl ⟨by rfl, ?d67_74xy6⟩) (by assumption) ?d67_74xr6
          case d67_74xy6 => (intro w hSw; (try dsimp only at hSw); go_simp; try with_reducible rfl)
          (try simp only [Act.put])
          (try simp only [List.setIfInBounds_toArray])
          (try simp only [List.set_cons_succ])
          (try simp only [List.set_cons_zero])
          refine wpAnyH_take (i := 7) (oi := { dst := some 82, op := Op.extract (Operand.tmp 75) 2, type := 4, pos := "law.go:37", after := #[{ on := 4, ground := Ground.data }, { on := 12, ground := Ground.gcOnly Departure.lateStores }], guard := none }) (v := ?d67_75xv7) rfl (by kernel_rfl) (by kernel_rfl) (by kernel_rfl) (fun _ _ _ h => hQP _ _ _ _ _ h) (Or.inl ⟨by rfl, ?d67_75xy7⟩) (by assumption) ?d67_75xr7
          case d67_75xy7 => (intro w hSw; (try dsimp only at hSw); go_simp; try with_reducible rfl)
          (try simp only [Act.put])
          (try simp only [List.setIfInBounds_toArray])
          (try simp only [List.set_cons_succ])
          (try simp only [List.set_cons_zero])
          refine wpAnyH_take (i := 8) (oi := { dst := some 83, op := Op.extract (Operand.tmp 75) 3, type := 32, pos := "law.go:37", after := #[{ on := 4, ground := Ground.data }, { on := 13, ground := Ground.gcOnly Departure.lateStores }], guard := none }) (v := ?d67_76xv8) rfl (by kernel_rfl) (by kernel_rfl) (by kernel_rfl) (fun _ _ _ h => hQP _ _ _ _ _ h) (Or.inl ⟨by rfl, ?d67_76xy8⟩) (by assumption) ?d67_76xr8
          case d67_76xy8 => (intro w hSw; (try dsimp only at hSw); go_simp; try with_reducible rfl)
          (try simp only [Act.put])
          (try simp only [List.setIfInBounds_toArray])
          (try simp only [List.set_cons_succ])
          (try simp only [List.set_cons_zero])
          exact TL.out _ _ _ b20 b21 p20 q20 _ B20 B21 KK BB (by omega) (by omega) (by omega) (by kernel_rfl) (by rfl) (by rfl)
        refine AllReadyH.cons (o := { dst := some 21, op := Op.alloc 45, type := 0, pos := "law.go:37", after := #[], guard := none }) rfl (fun K hK => ?_) AllReadyH.nil
        go_simp
        have hlt_b21 := BB.out.size
        have hle_b21_KK := KK.out.le
        have KK' := Lib.hid (KK.out.below (below_new V17 (.cells #[.int .i64 0, .int .u32 0, .int .u32 0] 45)))
        have MM' := Lib.hid (MM.out.below (below_new V17 (.cells #[.int .i64 0, .int .u32 0, .int .u32 0] 45)))
        have BB' := Lib.hid (BB.out.trans ((below_new V17 (.cells #[.int .i64 0, .int .u32 0, .int .u32 0] 45)).mono BB.out.size))
        clear KK
        have KK := KK'
        clear KK'
        clear MM
        have MM := MM'
        clear MM'
        clear BB
        have BB := BB'
        clear BB'
        have B21 := Lib.hid (Box.new V17 #[.int .i64 0, .int .u32 0, .int .u32 0] 45 rfl)
        generalize World.alloc V17 (.cells #[.int .i64 0, .int .u32 0, .int .u32 0] 45) = v67 at *
        generalize World.heap V17 = hp_b21 at *
        generalize hp_b21.size = b21 at *
        refine hK.out _ _ ?_ (fun hHeld => ?_)
        · exact ⟨KK.out.x1.cells2.1.1, KK.out.x1.cells2.1.2⟩
        clear hK K
        (try simp only [Act.put])
        (try simp only [List.setIfInBounds_toArray])
        (try simp only [List.set_cons_succ])
        (try simp only [List.set_cons_zero])
        refine wpAnyH_ready (rs := [1, 9]) (by kernel_rfl) (by simp) ?_
        refine AllReadyH.cons (o := { dst := some 77, op := Op.call { callee := Callee.value (Operand.func 29), args := #[Operand.const (Value.int IntKind.i64 0)], argTypes := #[2] }, type := 45, pos := "law.go:37", after := #[], guard := none }) rfl (fun K hK => ?_) ?_
        · skip
          go_simp
          go_at_call 29
          refine (word_any 0 _).mono ?_
          rintro e v68 ⟨rfl, hb⟩
          have KK' := Lib.hid (KK.out.below (hb))
          have MM' := Lib.hid (MM.out.below (hb))
          have B21' := Lib.hid (B21.out.below (hb))
          have BB' := Lib.hid (BB.out.trans ((hb).mono BB.out.size))
          clear KK
          have KK := KK'
          clear KK'
          clear MM
          have MM := MM'
          clear MM'
          clear B21
          have B21 := B21'
          clear B21'
          clear BB
          have BB := BB'
          clear BB'
          clear hb
          go_simp
          refine hK.out _ _ ?_ (fun hHeld => ?_)
          · exact ⟨KK.out.x1.cells2.1.1, KK.out.x1.cells2.1.2⟩
          clear hK K
          (try simp only [Act.put])
          (try simp only [List.setIfInBounds_toArray])
          (try simp only [List.set_cons_succ])
          (try simp only [List.set_cons_zero])
          refine wpAnyH_ready (rs := [2, 9]) (by kernel_rfl) (by simp) ?_
          refine AllReadyH.cons (o := { dst := some 78, op := Op.call { callee := Callee.value (Operand.func 29), args := #[Operand.const (Value.int IntKind.i64 5)], argTypes := #[2] }, type := 45, pos := "law.go:37", after := #[{ on := 1, ground := Ground.chain }], guard := none }) rfl (fun K hK => ?_) ?_
          · skip
            go_simp
            go_at_call 29
            refine (word_any 5 _).mono ?_
            rintro e v69 ⟨rfl, hb⟩
            have KK' := Lib.hid (KK.out.below (hb))
            have MM' := Lib.hid (MM.out.below (hb))
            have B21' := Lib.hid (B21.out.below (hb))
            have BB' := Lib.hid (BB.out.trans ((hb).mono BB.out.size))
            clear KK
            have KK := KK'
            clear KK'
            clear MM
            have MM := MM'
            clear MM'
            clear B21
            have B21 := B21'
            clear B21'
            clear BB
            have BB := BB'
            clear BB'
            clear hb
            go_simp
            refine hK.out _ _ ?_ (fun hHeld => ?_)
            · exact ⟨KK.out.x1.cells2.1.1, KK.out.x1.cells2.1.2⟩
            clear hK K
            (try simp only [Act.put])
            (try simp only [List.setIfInBounds_toArray])
            (try simp only [List.set_cons_succ])
            (try simp only [List.set_cons_zero])
            refine wpAnyH_ready (rs := [3, 9]) (by kernel_rfl) (by simp) ?_
            refine AllReadyH.cons (o := { dst := some 79, op := Op.call { callee := Callee.value (Operand.func 28), args := #[Operand.tmp 76, Operand.const (Value.int IntKind.i64 2), Operand.const (Value.int IntKind.i64 1), Operand.tmp 77, Operand.tmp 78], argTypes := #[31, 3, 42, 45, 45] }, type := 50, pos := "law.go:37", after := #[{ on := 0, ground := Ground.data }, { on := 1, ground := Ground.data }, { on := 2, ground := Ground.data }, { on := 2, ground := Ground.chain }], guard := none }) rfl (fun K hK => ?_) ?_
            · skip
              go_simp
              go_at_call 28
              refine (swap_miss _ _ A2 3 1 1 0 0 0 5 0 0 _ _ MM.out good2 (by omega) (by rw [n2.2]; omega) (by rw [n2.1]; omega) sw9).mono ?_
              rintro e v70 ⟨pv, vv, rfl, hm, hb⟩
              have KK' := Lib.hid (KK.out.below (hb))
              have MM' := Lib.hid (MM.out.below (hb))
              have B21' := Lib.hid (B21.out.below (hb))
              have BB' := Lib.hid (BB.out.trans ((hb).mono BB.out.size))
              clear KK
              have KK := KK'
              clear KK'
              clear MM
              have MM := MM'
              clear MM'
              clear B21
              have B21 := B21'
              clear B21'
              clear BB
              have BB := BB'
              clear BB'
              clear hb
              clear MM
              obtain ⟨p20, q20, e1, e2⟩ := sl9 hm
              subst e1 e2
              clear hm
              rw [l2, w3]
              go_simp
              refine hK.out _ _ ?_ (fun hHeld => ?_)
              · exact ⟨KK.out.x1.cells2.1.1, KK.out.x1.cells2.1.2⟩
              clear hK K
              (try simp only [Act.put])
              (try simp only [List.setIfInBounds_toArray])
              (try simp only [List.set_cons_succ])
              (try simp only [List.set_cons_zero])
              refine wpAnyH_take (i := 4) (oi := { dst := some 75, op := Op.move (Operand.tmp 79), type := 50, pos := "law.go:37", after := #[{ on := 3, ground := Ground.data }], guard := none }) (v := ?d71_77xv4) rfl (by kernel_rfl) (by kernel_rfl) (by kernel_rfl) (fun _ _ _ h => hQP _ _ _ _ _ h) (Or.inl ⟨by rfl, ?d71_77xy4⟩) (by assumption) ?d71_77xr4
              case d71_77xy4 => (intro w hSw; (try dsimp only at hSw); go_simp; try with_reducible rfl)
              (try simp only [Act.put])
              (try simp only [List.setIfInBounds_toArray])
              (try simp only [List.set_cons_succ])
              (try simp only [List.set_cons_zero])
              refine wpAnyH_take (i := 5) (oi := { dst := some 80, op := Op.extract (Operand.tmp 75) 0, type := 31, pos := "law.go:37", after := #[{ on := 4, ground := Ground.data }], guard := none }) (v := ?d71_78xv5) rfl (by kernel_rfl) (by kernel_rfl) (by kernel_rfl) (fun _ _ _ h => hQP _ _ _ _ _ h) (Or.inl ⟨by rfl, ?d71_78xy5⟩) (by assumption) ?d71_78xr5
              case d71_78xy5 => (intro w hSw; (try dsimp only at hSw); go_simp; try with_reducible rfl)
              (try simp only [Act.put])
              (try simp only [List.setIfInBounds_toArray])
              (try simp only [List.set_cons_succ])
              (try simp only [List.set_cons_zero])
              refine wpAnyH_take (i := 6) (oi := { dst := some 81, op := Op.extract (Operand.tmp 75) 1, type := 45, pos := "law.go:37", after := #[{ on := 4, ground := Ground.data }, { on := 11, ground := Ground.gcOnly Departure.lateStores }], guard := none }) (v := ?d71_79xv6) rfl (by kernel_rfl) (by kernel_rfl) (by kernel_rfl) (fun _ _ _ h => hQP _ _ _ _ _ h) (Or.inl ⟨by rfl, ?d71_79xy6⟩) (by assumption) ?d71_79xr6
              case d71_79xy6 => (intro w hSw; (try dsimp only at hSw); go_simp; try with_reducible rfl)
              (try simp only [Act.put])
              (try simp only [List.setIfInBounds_toArray])
              (try simp only [List.set_cons_succ])
              (try simp only [List.set_cons_zero])
              refine wpAnyH_take (i := 7) (oi := { dst := some 82, op := Op.extract (Operand.tmp 75) 2, type := 4, pos := "law.go:37", after := #[{ on := 4, ground := Ground.data }, { on := 12, ground := Ground.gcOnly Departure.lateStores }], guard := none }) (v := ?d71_80xv7) rfl (by kernel_rfl) (by kernel_rfl) (by kernel_rfl) (fun _ _ _ h => hQP _ _ _ _ _ h) (Or.inl ⟨by rfl, ?d71_80xy7⟩) (by assumption) ?d71_80xr7
              case d71_80xy7 => (intro w hSw; (try dsimp only at hSw); go_simp; try with_reducible rfl)
              (try simp only [Act.put])
              (try simp only [List.setIfInBounds_toArray])
              (try simp only [List.set_cons_succ])
              (try simp only [List.set_cons_zero])
              refine wpAnyH_take (i := 8) (oi := { dst := some 83, op := Op.extract (Operand.tmp 75) 3, type := 32, pos := "law.go:37", after := #[{ on := 4, ground := Ground.data }, { on := 13, ground := Ground.gcOnly Departure.lateStores }], guard := none }) (v := ?d71_81xv8) rfl (by kernel_rfl) (by kernel_rfl) (by kernel_rfl) (fun _ _ _ h => hQP _ _ _ _ _ h) (Or.inl ⟨by rfl, ?d71_81xy8⟩) (by assumption) ?d71_81xr8
              case d71_81xy8 => (intro w hSw; (try dsimp only at hSw); go_simp; try with_reducible rfl)
              (try simp only [Act.put])
              (try simp only [List.setIfInBounds_toArray])
              (try simp only [List.set_cons_succ])
              (try simp only [List.set_cons_zero])
              refine wpAnyH_ready (rs := [9]) (by kernel_rfl) (by simp) ?_
              refine AllReadyH.cons (o := { dst := some 20, op := Op.alloc 31, type := 0, pos := "law.go:37", after := #[], guard := none }) rfl (fun K hK => ?_) AllReadyH.nil
              go_simp
              have hlt_b20 := BB.out.size
              have hlt_b20_B21 := B21.out.lt
              have hle_b20_KK := KK.out.le
              have KK' := Lib.hid (KK.out.below (below_new v70 (.cells #[.slice none 0 0, .slice none 0 0] 31)))
              have B21' := Lib.hid (B21.out.below (below_new v70 (.cells #[.slice none 0 0, .slice none 0 0] 31)))
              have BB' := Lib.hid (BB.out.trans ((below_new v70 (.cells #[.slice none 0 0, .slice none 0 0] 31)).mono BB.out.size))
              clear KK
              have KK := KK'
              clear KK'
              clear B21
              have B21 := B21'
              clear B21'
              clear BB
              have BB := BB'
              clear BB'
              have B20 := Lib.hid (Box.new v70 #[.slice none 0 0, .slice none 0 0] 31 rfl)
              generalize World.alloc v70 (.cells #[.slice none 0 0, .slice none 0 0] 31) = v71 at *
              generalize World.heap v70 = hp_b20 at *
              generalize hp_b20.size = b20 at *
              refine hK.out _ _ ?_ (fun hHeld => ?_)
              · exact ⟨KK.out.x1.cells2.1.1, KK.out.x1.cells2.1.2⟩
              clear hK K
              (try simp only [Act.put])
              (try simp only [List.setIfInBounds_toArray])
              (try simp only [List.set_cons_succ])
              (try simp only [List.set_cons_zero])
              exact TL.out _ _ _ b20 b21 p20 q20 _ B20 B21 KK BB (by omega) (by omega) (by omega) (by kernel_rfl) (by rfl) (by rfl)
            refine AllReadyH.cons (o := { dst := some 20, op := Op.alloc 31, type := 0, pos := "law.go:37", after := #[], guard := none }) rfl (fun K hK => ?_) AllReadyH.nil
            go_simp
            have hlt_b20 := BB.out.size
            have hlt_b20_B21 := B21.out.lt
            have hle_b20_KK := KK.out.le
            have KK' := Lib.hid (KK.out.below (below_new v69 (.cells #[.slice none 0 0, .slice none 0 0] 31)))
            have MM' := Lib.hid (MM.out.below (below_new v69 (.cells #[.slice none 0 0, .slice none 0 0] 31)))
            have B21' := Lib.hid (B21.out.below (below_new v69 (.cells #[.slice none 0 0, .slice none 0 0] 31)))
            have BB' := Lib.hid (BB.out.trans ((below_new v69 (.cells #[.slice none 0 0, .slice none 0 0] 31)).mono BB.out.size))
            clear KK
            have KK := KK'
            clear KK'
            clear MM
            have MM := MM'
            clear MM'
            clear B21
            have B21 := B21'
            clear B21'
            clear BB
            have BB := BB'
            clear BB'
            have B20 := Lib.hid (Box.new v69 #[.slice none 0 0, .slice none 0 0] 31 rfl)
            generalize World.alloc v69 (.cells #[.slice none 0 0, .slice none 0 0] 31) = v72 at *
            generalize World.heap v69 = hp_b20 at *
            generalize hp_b20.size = b20 at *
            refine hK.out _ _ ?_ (fun hHeld => ?_)
            · exact ⟨KK.out.x1.cells2.1.1, KK.out.x1.cells2.1.2⟩
            clear hK K
            (try simp only [Act.put])
            (try simp only [List.setIfInBounds_toArray])
            (try simp only [List.set_cons_succ])
            (try simp only [List.set_cons_zero])
            refine wpAnyH_ready (rs := [3]) (by kernel_rfl) (by simp) ?_
            refine AllReadyH.cons (o := { dst := some 79, op := Op.call { callee := Callee.value (Operand.func 28), args := #[Operand.tmp 76, Operand.const (Value.int IntKind.i64 2), Operand.const (Value.int IntKind.i64 1), Operand.tmp 77, Operand.tmp 78], argTypes := #[31, 3, 42, 45, 45] }, type := 50, pos := "law.go:37", after := #[{ on := 0, ground := Ground.data }, { on := 1, ground := Ground.data }, { on := 2, ground := Ground.data }, { on := 2, ground := Ground.chain }], guard := none }) rfl (fun K hK => ?_) AllReadyH.nil
            go_simp
            go_at_call 28
            refine (swap_miss _ _ A2 3 1 1 0 0 0 5 0 0 _ _ MM.out good2 (by omega) (by rw [n2.2]; omega) (by rw [n2.1]; omega) sw9).mono ?_
            rintro e v73 ⟨pv, vv, rfl, hm, hb⟩
            have KK' := Lib.hid (KK.out.below (hb))
            have MM' := Lib.hid (MM.out.below (hb))
            have B21' := Lib.hid (B21.out.below (hb))
            have B20' := Lib.hid (B20.out.below (hb))
            have BB' := Lib.hid (BB.out.trans ((hb).mono BB.out.size))
            clear KK
            have KK := KK'
            clear KK'
            clear MM
            have MM := MM'
            clear MM'
            clear B21
            have B21 := B21'
            clear B21'
            clear B20
            have B20 := B20'
            clear B20'
            clear BB
            have BB := BB'
            clear BB'
            clear hb
            clear MM
            obtain ⟨p20, q20, e1, e2⟩ := sl9 hm
            subst e1 e2
            clear hm
            rw [l2, w3]
            go_simp
            refine hK.out _ _ ?_ (fun hHeld => ?_)
            · exact ⟨KK.out.x1.cells2.1.1, KK.out.x1.cells2.1.2⟩
            clear hK K
            (try simp only [Act.put])
            (try simp only [List.setIfInBounds_toArray])
            (try simp only [List.set_cons_succ])
            (try simp only [List.set_cons_zero])
            refine wpAnyH_take (i := 4) (oi := { dst := some 75, op := Op.move (Operand.tmp 79), type := 50, pos := "law.go:37", after := #[{ on := 3, ground := Ground.data }], guard := none }) (v := ?d74_82xv4) rfl (by kernel_rfl) (by kernel_rfl) (by kernel_rfl) (fun _ _ _ h => hQP _ _ _ _ _ h) (Or.inl ⟨by rfl, ?d74_82xy4⟩) (by assumption) ?d74_82xr4
            case d74_82xy4 => (intro w hSw; (try dsimp only at hSw); go_simp; try with_reducible rfl)
            (try simp only [Act.put])
            (try simp only [List.setIfInBounds_toArray])
            (try simp only [List.set_cons_succ])
            (try simp only [List.set_cons_zero])
            refine wpAnyH_take (i := 5) (oi := { dst := some 80, op := Op.extract (Operand.tmp 75) 0, type := 31, pos := "law.go:37", after := #[{ on := 4, ground := Ground.data }], guard := none }) (v := ?d74_83xv5) rfl (by kernel_rfl) (by kernel_rfl) (by kernel_rfl) (fun _ _ _ h => hQP _ _ _ _ _ h) (Or.inl ⟨by rfl, ?d74_83xy5⟩) (by assumption) ?d74_83xr5
            case d74_83xy5 => (intro w hSw; (try dsimp only at hSw); go_simp; try with_reducible rfl)
            (try simp only [Act.put])
            (try simp only [List.setIfInBounds_toArray])
            (try simp only [List.set_cons_succ])
            (try simp only [List.set_cons_zero])
            refine wpAnyH_take (i := 6) (oi := { dst := some 81, op := Op.extract (Operand.tmp 75) 1, type := 45, pos := "law.go:37", after := #[{ on := 4, ground := Ground.data }, { on := 11, ground := Ground.gcOnly Departure.lateStores }], guard := none }) (v := ?d74_84xv6) rfl (by kernel_rfl) (by kernel_rfl) (by kernel_rfl) (fun _ _ _ h => hQP _ _ _ _ _ h) (Or.inl ⟨by rfl, ?d74_84xy6⟩) (by assumption) ?d74_84xr6
            case d74_84xy6 => (intro w hSw; (try dsimp only at hSw); go_simp; try with_reducible rfl)
            (try simp only [Act.put])
            (try simp only [List.setIfInBounds_toArray])
            (try simp only [List.set_cons_succ])
            (try simp only [List.set_cons_zero])
            refine wpAnyH_take (i := 7) (oi := { dst := some 82, op := Op.extract (Operand.tmp 75) 2, type := 4, pos := "law.go:37", after := #[{ on := 4, ground := Ground.data }, { on := 12, ground := Ground.gcOnly Departure.lateStores }], guard := none }) (v := ?d74_85xv7) rfl (by kernel_rfl) (by kernel_rfl) (by kernel_rfl) (fun _ _ _ h => hQP _ _ _ _ _ h) (Or.inl ⟨by rfl, ?d74_85xy7⟩) (by assumption) ?d74_85xr7
            case d74_85xy7 => (intro w hSw; (try dsimp only at hSw); go_simp; try with_reducible rfl)
            (try simp only [Act.put])
            (try simp only [List.setIfInBounds_toArray])
            (try simp only [List.set_cons_succ])
            (try simp only [List.set_cons_zero])
            refine wpAnyH_take (i := 8) (oi := { dst := some 83, op := Op.extract (Operand.tmp 75) 3, type := 32, pos := "law.go:37", after := #[{ on := 4, ground := Ground.data }, { on := 13, ground := Ground.gcOnly Departure.lateStores }], guard := none }) (v := ?d74_86xv8) rfl (by kernel_rfl) (by kernel_rfl) (by kernel_rfl) (fun _ _ _ h => hQP _ _ _ _ _ h) (Or.inl ⟨by rfl, ?d74_86xy8⟩) (by assumption) ?d74_86xr8
            case d74_86xy8 => (intro w hSw; (try dsimp only at hSw); go_simp; try with_reducible rfl)
            (try simp only [Act.put])
            (try simp only [List.setIfInBounds_toArray])
            (try simp only [List.set_cons_succ])
            (try simp only [List.set_cons_zero])
            exact TL.out _ _ _ b20 b21 p20 q20 _ B20 B21 KK BB (by omega) (by omega) (by omega) (by kernel_rfl) (by rfl) (by rfl)
          refine AllReadyH.cons (o := { dst := some 20, op := Op.alloc 31, type := 0, pos := "law.go:37", after := #[], guard := none }) rfl (fun K hK => ?_) AllReadyH.nil
          go_simp
          have hlt_b20 := BB.out.size
          have hlt_b20_B21 := B21.out.lt
          have hle_b20_KK := KK.out.le
          have KK' := Lib.hid (KK.out.below (below_new v68 (.cells #[.slice none 0 0, .slice none 0 0] 31)))
          have MM' := Lib.hid (MM.out.below (below_new v68 (.cells #[.slice none 0 0, .slice none 0 0] 31)))
          have B21' := Lib.hid (B21.out.below (below_new v68 (.cells #[.slice none 0 0, .slice none 0 0] 31)))
          have BB' := Lib.hid (BB.out.trans ((below_new v68 (.cells #[.slice none 0 0, .slice none 0 0] 31)).mono BB.out.size))
          clear KK
          have KK := KK'
          clear KK'
          clear MM
          have MM := MM'
          clear MM'
          clear B21
          have B21 := B21'
          clear B21'
          clear BB
          have BB := BB'
          clear BB'
          have B20 := Lib.hid (Box.new v68 #[.slice none 0 0, .slice none 0 0] 31 rfl)
          generalize World.alloc v68 (.cells #[.slice none 0 0, .slice none 0 0] 31) = v74 at *
          generalize World.heap v68 = hp_b20 at *
          generalize hp_b20.size = b20 at *
          refine hK.out _ _ ?_ (fun hHeld => ?_)
          · exact ⟨KK.out.x1.cells2.1.1, KK.out.x1.cells2.1.2⟩
          clear hK K
          (try simp only [Act.put])
          (try simp only [List.setIfInBounds_toArray])
          (try simp only [List.set_cons_succ])
          (try simp only [List.set_cons_zero])
          refine wpAnyH_ready (rs := [2]) (by kernel_rfl) (by simp) ?_
          refine AllReadyH.cons (o := { dst := some 78, op := Op.call { callee := Callee.value (Operand.func 29), args := #[Operand.const (Value.int IntKind.i64 5)], argTypes := #[2] }, type := 45, pos := "law.go:37", after := #[{ on := 1, ground := Ground.chain }], guard := none }) rfl (fun K hK => ?_) AllReadyH.nil
          go_simp
          go_at_call 29
          refine (word_any 5 _).mono ?_
          rintro e v75 ⟨rfl, hb⟩
          have KK' := Lib.hid (KK.out.below (hb))
          have MM' := Lib.hid (MM.out.below (hb))
          have B21' := Lib.hid (B21.out.below (hb))
          have B20' := Lib.hid (B20.out.below (hb))
          have BB' := Lib.hid (BB.out.trans ((hb).mono BB.out.size))
          clear KK
          have KK := KK'
          clear KK'
          clear MM
          have MM := MM'
          clear MM'
          clear B21
          have B21 := B21'
          clear B21'
          clear B20
          have B20 := B20'
          clear B20'
          clear BB
          have BB := BB'
          clear BB'
          clear hb
          go_simp
          refine hK.out _ _ ?_ (fun hHeld => ?_)
          · exact ⟨KK.out.x1.cells2.1.1, KK.out.x1.cells2.1.2⟩
          clear hK K
          (try simp only [Act.put])
          (try simp only [List.setIfInBounds_toArray])
          (try simp only [List.set_cons_succ])
          (try simp only [List.set_cons_zero])
          refine wpAnyH_ready (rs := [3]) (by kernel_rfl) (by simp) ?_
          refine AllReadyH.cons (o := { dst := some 79, op := Op.call { callee := Callee.value (Operand.func 28), args := #[Operand.tmp 76, Operand.const (Value.int IntKind.i64 2), Operand.const (Value.int IntKind.i64 1), Operand.tmp 77, Operand.tmp 78], argTypes := #[31, 3, 42, 45, 45] }, type := 50, pos := "law.go:37", after := #[{ on := 0, ground := Ground.data }, { on := 1, ground := Ground.data }, { on := 2, ground := Ground.data }, { on := 2, ground := Ground.chain }], guard := none }) rfl (fun K hK => ?_) AllReadyH.nil
          go_simp
          go_at_call 28
          refine (swap_miss _ _ A2 3 1 1 0 0 0 5 0 0 _ _ MM.out good2 (by omega) (by rw [n2.2]; omega) (by rw [n2.1]; omega) sw9).mono ?_
          rintro e v76 ⟨pv, vv, rfl, hm, hb⟩
          have KK' := Lib.hid (KK.out.below (hb))
          have MM' := Lib.hid (MM.out.below (hb))
          have B21' := Lib.hid (B21.out.below (hb))
          have B20' := Lib.hid (B20.out.below (hb))
          have BB' := Lib.hid (BB.out.trans ((hb).mono BB.out.size))
          clear KK
          have KK := KK'
          clear KK'
          clear MM
          have MM := MM'
          clear MM'
          clear B21
          have B21 := B21'
          clear B21'
          clear B20
          have B20 := B20'
          clear B20'
          clear BB
          have BB := BB'
          clear BB'
          clear hb
          clear MM
          obtain ⟨p20, q20, e1, e2⟩ := sl9 hm
          subst e1 e2
          clear hm
          rw [l2, w3]
          go_simp
          refine hK.out _ _ ?_ (fun hHeld => ?_)
          · exact ⟨KK.out.x1.cells2.1.1, KK.out.x1.cells2.1.2⟩
          clear hK K
          (try simp only [Act.put])
          (try simp only [List.setIfInBounds_toArray])
          (try simp only [List.set_cons_succ])
          (try simp only [List.set_cons_zero])
          refine wpAnyH_take (i := 4) (oi := { dst := some 75, op := Op.move (Operand.tmp 79), type := 50, pos := "law.go:37", after := #[{ on := 3, ground := Ground.data }], guard := none }) (v := ?d77_87xv4) rfl (by kernel_rfl) (by kernel_rfl) (by kernel_rfl) (fun _ _ _ h => hQP _ _ _ _ _ h) (Or.inl ⟨by rfl, ?d77_87xy4⟩) (by assumption) ?d77_87xr4
          case d77_87xy4 => (intro w hSw; (try dsimp only at hSw); go_simp; try with_reducible rfl)
          (try simp only [Act.put])
          (try simp only [List.setIfInBounds_toArray])
          (try simp only [List.set_cons_succ])
          (try simp only [List.set_cons_zero])
          refine wpAnyH_take (i := 5) (oi := { dst := some 80, op := Op.extract (Operand.tmp 75) 0, type := 31, pos := "law.go:37", after := #[{ on := 4, ground := Ground.data }], guard := none }) (v := ?d77_88xv5) rfl (by kernel_rfl) (by kernel_rfl) (by kernel_rfl) (fun _ _ _ h => hQP _ _ _ _ _ h) (Or.inl ⟨by rfl, ?d77_88xy5⟩) (by assumption) ?d77_88xr5
          case d77_88xy5 => (intro w hSw; (try dsimp only at hSw); go_simp; try with_reducible rfl)
          (try simp only [Act.put])
          (try simp only [List.setIfInBounds_toArray])
          (try simp only [List.set_cons_succ])
          (try simp only [List.set_cons_zero])
          refine wpAnyH_take (i := 6) (oi := { dst := some 81, op := Op.extract (Operand.tmp 75) 1, type := 45, pos := "law.go:37", after := #[{ on := 4, ground := Ground.data }, { on := 11, ground := Ground.gcOnly Departure.lateStores }], guard := none }) (v := ?d77_89xv6) rfl (by kernel_rfl) (by kernel_rfl) (by kernel_rfl) (fun _ _ _ h => hQP _ _ _ _ _ h) (Or.inl ⟨by rfl, ?d77_89xy6⟩) (by assumption) ?d77_89xr6
          case d77_89xy6 => (intro w hSw; (try dsimp only at hSw); go_simp; try with_reducible rfl)
          (try simp only [Act.put])
          (try simp only [List.setIfInBounds_toArray])
          (try simp only [List.set_cons_succ])
          (try simp only [List.set_cons_zero])
          refine wpAnyH_take (i := 7) (oi := { dst := some 82, op := Op.extract (Operand.tmp 75) 2, type := 4, pos := "law.go:37", after := #[{ on := 4, ground := Ground.data }, { on := 12, ground := Ground.gcOnly Departure.lateStores }], guard := none }) (v := ?d77_90xv7) rfl (by kernel_rfl) (by kernel_rfl) (by kernel_rfl) (fun _ _ _ h => hQP _ _ _ _ _ h) (Or.inl ⟨by rfl, ?d77_90xy7⟩) (by assumption) ?d77_90xr7
          case d77_90xy7 => (intro w hSw; (try dsimp only at hSw); go_simp; try with_reducible rfl)
          (try simp only [Act.put])
          (try simp only [List.setIfInBounds_toArray])
          (try simp only [List.set_cons_succ])
          (try simp only [List.set_cons_zero])
          refine wpAnyH_take (i := 8) (oi := { dst := some 83, op := Op.extract (Operand.tmp 75) 3, type := 32, pos := "law.go:37", after := #[{ on := 4, ground := Ground.data }, { on := 13, ground := Ground.gcOnly Departure.lateStores }], guard := none }) (v := ?d77_91xv8) rfl (by kernel_rfl) (by kernel_rfl) (by kernel_rfl) (fun _ _ _ h => hQP _ _ _ _ _ h) (Or.inl ⟨by rfl, ?d77_91xy8⟩) (by assumption) ?d77_91xr8
          case d77_91xy8 => (intro w hSw; (try dsimp only at hSw); go_simp; try with_reducible rfl)
          (try simp only [Act.put])
          (try simp only [List.setIfInBounds_toArray])
          (try simp only [List.set_cons_succ])
          (try simp only [List.set_cons_zero])
          exact TL.out _ _ _ b20 b21 p20 q20 _ B20 B21 KK BB (by omega) (by omega) (by omega) (by kernel_rfl) (by rfl) (by rfl)
        refine AllReadyH.cons (o := { dst := some 20, op := Op.alloc 31, type := 0, pos := "law.go:37", after := #[], guard := none }) rfl (fun K hK => ?_) AllReadyH.nil
        go_simp
        have hlt_b20 := BB.out.size
        have hlt_b20_B21 := B21.out.lt
        have hle_b20_KK := KK.out.le
        have KK' := Lib.hid (KK.out.below (below_new v67 (.cells #[.slice none 0 0, .slice none 0 0] 31)))
        have MM' := Lib.hid (MM.out.below (below_new v67 (.cells #[.slice none 0 0, .slice none 0 0] 31)))
        have B21' := Lib.hid (B21.out.below (below_new v67 (.cells #[.slice none 0 0, .slice none 0 0] 31)))
        have BB' := Lib.hid (BB.out.trans ((below_new v67 (.cells #[.slice none 0 0, .slice none 0 0] 31)).mono BB.out.size))
        clear KK
        have KK := KK'
        clear KK'
        clear MM
        have MM := MM'
        clear MM'
        clear B21
        have B21 := B21'
        clear B21'
        clear BB
        have BB := BB'
        clear BB'
        have B20 := Lib.hid (Box.new v67 #[.slice none 0 0, .slice none 0 0] 31 rfl)
        generalize World.alloc v67 (.cells #[.slice none 0 0, .slice none 0 0] 31) = v77 at *
        generalize World.heap v67 = hp_b20 at *
        generalize hp_b20.size = b20 at *
        refine hK.out _ _ ?_ (fun hHeld => ?_)
        · exact ⟨KK.out.x1.cells2.1.1, KK.out.x1.cells2.1.2⟩
        clear hK K
        (try simp only [Act.put])
        (try simp only [List.setIfInBounds_toArray])
        (try simp only [List.set_cons_succ])
        (try simp only [List.set_cons_zero])
        refine wpAnyH_ready (rs := [1]) (by kernel_rfl) (by simp) ?_
        refine AllReadyH.cons (o := { dst := some 77, op := Op.call { callee := Callee.value (Operand.func 29), args := #[Operand.const (Value.int IntKind.i64 0)], argTypes := #[2] }, type := 45, pos := "law.go:37", after := #[], guard := none }) rfl (fun K hK => ?_) AllReadyH.nil
        go_simp
        go_at_call 29
        refine (word_any 0 _).mono ?_
        rintro e v78 ⟨rfl, hb⟩
        have KK' := Lib.hid (KK.out.below (hb))
        have MM' := Lib.hid (MM.out.below (hb))
        have B21' := Lib.hid (B21.out.below (hb))
        have B20' := Lib.hid (B20.out.below (hb))
        have BB' := Lib.hid (BB.out.trans ((hb).mono BB.out.size))
        clear KK
        have KK := KK'
        clear KK'
        clear MM
        have MM := MM'
        clear MM'
        clear B21
        have B21 := B21'
        clear B21'
        clear B20
        have B20 := B20'
        clear B20'
        clear BB
        have BB := BB'
        clear BB'
        clear hb
        go_simp
        refine hK.out _ _ ?_ (fun hHeld => ?_)
        · exact ⟨KK.out.x1.cells2.1.1, KK.out.x1.cells2.1.2⟩
        clear hK K
        (try simp only [Act.put])
        (try simp only [List.setIfInBounds_toArray])
        (try simp only [List.set_cons_succ])
        (try simp only [List.set_cons_zero])
        refine wpAnyH_ready (rs := [2]) (by kernel_rfl) (by simp) ?_
        refine AllReadyH.cons (o := { dst := some 78, op := Op.call { callee := Callee.value (Operand.func 29), args := #[Operand.const (Value.int IntKind.i64 5)], argTypes := #[2] }, type := 45, pos := "law.go:37", after := #[{ on := 1, ground := Ground.chain }], guard := none }) rfl (fun K hK => ?_) AllReadyH.nil
        go_simp
        go_at_call 29
        refine (word_any 5 _).mono ?_
        rintro e v79 ⟨rfl, hb⟩
        have KK' := Lib.hid (KK.out.below (hb))
        have MM' := Lib.hid (MM.out.below (hb))
        have B21' := Lib.hid (B21.out.below (hb))
        have B20' := Lib.hid (B20.out.below (hb))
        have BB' := Lib.hid (BB.out.trans ((hb).mono BB.out.size))
        clear KK
        have KK := KK'
        clear KK'
        clear MM
        have MM := MM'
        clear MM'
        clear B21
        have B21 := B21'
        clear B21'
        clear B20
        have B20 := B20'
        clear B20'
        clear BB
        have BB := BB'
        clear BB'
        clear hb
        go_simp
        refine hK.out _ _ ?_ (fun hHeld => ?_)
        · exact ⟨KK.out.x1.cells2.1.1, KK.out.x1.cells2.1.2⟩
        clear hK K
        (try simp only [Act.put])
        (try simp only [List.setIfInBounds_toArray])
        (try simp only [List.set_cons_succ])
        (try simp only [List.set_cons_zero])
        refine wpAnyH_ready (rs := [3]) (by kernel_rfl) (by simp) ?_
        refine AllReadyH.cons (o := { dst := some 79, op := Op.call { callee := Callee.value (Operand.func 28), args := #[Operand.tmp 76, Operand.const (Value.int IntKind.i64 2), Operand.const (Value.int IntKind.i64 1), Operand.tmp 77, Operand.tmp 78], argTypes := #[31, 3, 42, 45, 45] }, type := 50, pos := "law.go:37", after := #[{ on := 0, ground := Ground.data }, { on := 1, ground := Ground.data }, { on := 2, ground := Ground.data }, { on := 2, ground := Ground.chain }], guard := none }) rfl (fun K hK => ?_) AllReadyH.nil
        go_simp
        go_at_call 28
        refine (swap_miss _ _ A2 3 1 1 0 0 0 5 0 0 _ _ MM.out good2 (by omega) (by rw [n2.2]; omega) (by rw [n2.1]; omega) sw9).mono ?_
        rintro e v80 ⟨pv, vv, rfl, hm, hb⟩
        have KK' := Lib.hid (KK.out.below (hb))
        have MM' := Lib.hid (MM.out.below (hb))
        have B21' := Lib.hid (B21.out.below (hb))
        have B20' := Lib.hid (B20.out.below (hb))
        have BB' := Lib.hid (BB.out.trans ((hb).mono BB.out.size))
        clear KK
        have KK := KK'
        clear KK'
        clear MM
        have MM := MM'
        clear MM'
        clear B21
        have B21 := B21'
        clear B21'
        clear B20
        have B20 := B20'
        clear B20'
        clear BB
        have BB := BB'
        clear BB'
        clear hb
        clear MM
        obtain ⟨p20, q20, e1, e2⟩ := sl9 hm
        subst e1 e2
        clear hm
        rw [l2, w3]
        go_simp
        refine hK.out _ _ ?_ (fun hHeld => ?_)
        · exact ⟨KK.out.x1.cells2.1.1, KK.out.x1.cells2.1.2⟩
        clear hK K
        (try simp only [Act.put])
        (try simp only [List.setIfInBounds_toArray])
        (try simp only [List.set_cons_succ])
        (try simp only [List.set_cons_zero])
        refine wpAnyH_take (i := 4) (oi := { dst := some 75, op := Op.move (Operand.tmp 79), type := 50, pos := "law.go:37", after := #[{ on := 3, ground := Ground.data }], guard := none }) (v := ?d81_92xv4) rfl (by kernel_rfl) (by kernel_rfl) (by kernel_rfl) (fun _ _ _ h => hQP _ _ _ _ _ h) (Or.inl ⟨by rfl, ?d81_92xy4⟩) (by assumption) ?d81_92xr4
        case d81_92xy4 => (intro w hSw; (try dsimp only at hSw); go_simp; try with_reducible rfl)
        (try simp only [Act.put])
        (try simp only [List.setIfInBounds_toArray])
        (try simp only [List.set_cons_succ])
        (try simp only [List.set_cons_zero])
        refine wpAnyH_take (i := 5) (oi := { dst := some 80, op := Op.extract (Operand.tmp 75) 0, type := 31, pos := "law.go:37", after := #[{ on := 4, ground := Ground.data }], guard := none }) (v := ?d81_93xv5) rfl (by kernel_rfl) (by kernel_rfl) (by kernel_rfl) (fun _ _ _ h => hQP _ _ _ _ _ h) (Or.inl ⟨by rfl, ?d81_93xy5⟩) (by assumption) ?d81_93xr5
        case d81_93xy5 => (intro w hSw; (try dsimp only at hSw); go_simp; try with_reducible rfl)
        (try simp only [Act.put])
        (try simp only [List.setIfInBounds_toArray])
        (try simp only [List.set_cons_succ])
        (try simp only [List.set_cons_zero])
        refine wpAnyH_take (i := 6) (oi := { dst := some 81, op := Op.extract (Operand.tmp 75) 1, type := 45, pos := "law.go:37", after := #[{ on := 4, ground := Ground.data }, { on := 11, ground := Ground.gcOnly Departure.lateStores }], guard := none }) (v := ?d81_94xv6) rfl (by kernel_rfl) (by kernel_rfl) (by kernel_rfl) (fun _ _ _ h => hQP _ _ _ _ _ h) (Or.inl ⟨by rfl, ?d81_94xy6⟩) (by assumption) ?d81_94xr6
        case d81_94xy6 => (intro w hSw; (try dsimp only at hSw); go_simp; try with_reducible rfl)
        (try simp only [Act.put])
        (try simp only [List.setIfInBounds_toArray])
        (try simp only [List.set_cons_succ])
        (try simp only [List.set_cons_zero])
        refine wpAnyH_take (i := 7) (oi := { dst := some 82, op := Op.extract (Operand.tmp 75) 2, type := 4, pos := "law.go:37", after := #[{ on := 4, ground := Ground.data }, { on := 12, ground := Ground.gcOnly Departure.lateStores }], guard := none }) (v := ?d81_95xv7) rfl (by kernel_rfl) (by kernel_rfl) (by kernel_rfl) (fun _ _ _ h => hQP _ _ _ _ _ h) (Or.inl ⟨by rfl, ?d81_95xy7⟩) (by assumption) ?d81_95xr7
        case d81_95xy7 => (intro w hSw; (try dsimp only at hSw); go_simp; try with_reducible rfl)
        (try simp only [Act.put])
        (try simp only [List.setIfInBounds_toArray])
        (try simp only [List.set_cons_succ])
        (try simp only [List.set_cons_zero])
        refine wpAnyH_take (i := 8) (oi := { dst := some 83, op := Op.extract (Operand.tmp 75) 3, type := 32, pos := "law.go:37", after := #[{ on := 4, ground := Ground.data }, { on := 13, ground := Ground.gcOnly Departure.lateStores }], guard := none }) (v := ?d81_96xv8) rfl (by kernel_rfl) (by kernel_rfl) (by kernel_rfl) (fun _ _ _ h => hQP _ _ _ _ _ h) (Or.inl ⟨by rfl, ?d81_96xy8⟩) (by assumption) ?d81_96xr8
        case d81_96xy8 => (intro w hSw; (try dsimp only at hSw); go_simp; try with_reducible rfl)
        (try simp only [Act.put])
        (try simp only [List.setIfInBounds_toArray])
        (try simp only [List.set_cons_succ])
        (try simp only [List.set_cons_zero])
        exact TL.out _ _ _ b20 b21 p20 q20 _ B20 B21 KK BB (by omega) (by omega) (by omega) (by kernel_rfl) (by rfl) (by rfl)
      case rest =>
        obtain ⟨b21, rfl, rfl, rfl, B21', KK', BB'⟩ := hcut
        clear KK MM BB
        have B21 := Lib.hid B21'
        have KK := Lib.hid KK'
        have BB := Lib.hid BB'
        clear B21' KK' BB'
        obtain ⟨⟨c0, c1⟩, -⟩ := KK.out.x1.cells2
        go_wp2_with fail
        clear c0 c1
        refine (size_any p2 q2 2 2 _).mono ?_
        rintro e a19 ⟨rfl, hb⟩
        have B21' := Lib.hid (B21.out.below (hb))
        have KK' := Lib.hid (KK.out.below (hb))
        have BB' := Lib.hid (BB.out.trans ((hb).mono BB.out.size))
        clear B21
        have B21 := B21'
        clear B21'
        clear KK
        have KK := KK'
        clear KK'
        clear BB
        have BB := BB'
        clear BB'
        clear hb
        have k21 := B21.out.cells3.1.1
        have k6 := KK.out.x6.cells3.1.1
        have k9 := KK.out.x9.cells3.1.1
        have k12 := KK.out.x12.cells3.1.1
        have k15 := KK.out.x15.cells3.1.1
        have k18 := KK.out.x18.cells3.1.1
        have F2 := BB.out
        go_wp2
        go_ret
        exact ⟨by simp, F2⟩
end Go.Proofs.Ytbaljoehgdhhhaa
