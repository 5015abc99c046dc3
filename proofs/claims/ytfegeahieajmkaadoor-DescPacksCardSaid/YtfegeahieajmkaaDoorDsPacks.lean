/- The walk through DescPacks. -/
import Derived.Test.YtfegeahieajmkaaDoorDsAwake
import Derived.Test.YtfegeahieajmkaaDoorDsRPack
import Derived.Test.YtfegeahieajmkaaDoorDsEqE
import Derived.Deep.DeepCutAuto
namespace Go.Proofs.YtfegeahieajmkaaDoor
open Go.ChangeShapes Go.WideShapes Go.ChangeAt Go.RowKit Go.Maps
open Lay (startL checkI placeI mayI sizeI Ok starts checkI_ok)
theorem isEnt_pack (e : En) : isEnt (pw0 e) (pw1 e) (pw2 e) = decide (0 ≤ e.1 ∧ e.1 < 4096) := by
  obtain ⟨a, ⟨v, n, r⟩, z, b⟩ := e
  unfold isEnt entW pw0 pw1 pw2
  cases b <;> simp
theorem entW_pack (e : En) : entW (pw0 e) (pw1 e) (pw2 e) = (e.1, (e.2.1.1, e.2.1.2.1, 0), e.2.2.1, e.2.2.2) := by
  obtain ⟨a, ⟨v, n, r⟩, z, b⟩ := e
  unfold entW pw0 pw1 pw2
  cases b <;> simp
theorem pack_ent {x y z : Wd} (h : isEnt x y z = true) : pw0 (unE x y z) = x ∧ pw1 (unE x y z) = y ∧ pw2 (unE x y z) = z := by
  unfold unE
  rw [if_pos h]
  unfold isEnt at h
  simp only [Bool.and_eq_true, decide_eq_true_eq] at h
  exact h.2
set_option maxRecDepth 100000 in
set_option maxHeartbeats 12800000 in
theorem packs_walk (e : En) (x y z : Wd) (w : World) (hg : Lay.Gl w) : Calls Tryd.prog 5 #[enV e, w3V x y z] w (Good w) := by
  have HG := Lib.hid hg
  have HG0 := HG
  have UP := Lib.hid (fun W => unpack_any x y z W)
  have RU := Lib.hid (fun W => runpack_any x y z W)
  have PK := Lib.hid (fun W => pack_any e W)
  have RP := Lib.hid (fun W => rentry_any e W)
  have UB := Lib.hid (fun W => unpack_any (pw0 e) (pw1 e) (pw2 e) W)
  have PU := Lib.hid (fun W => pack_any (unE x y z) W)
  have PE := Lib.hid (fun h => pack_ent (x := x) (y := y) (z := z) h)
  have IE := Lib.hid (isEnt_pack e)
  have WE := Lib.hid (entW_pack e)
  have UE := Lib.hid (show unE (pw0 e) (pw1 e) (pw2 e) = if isEnt (pw0 e) (pw1 e) (pw2 e) = true then entW (pw0 e) (pw1 e) (pw2 e) else zE from rfl)
  rw [WE.out, IE.out] at UE
  rw [IE.out, UE.out] at UB
  clear hg WE IE UE
  obtain ⟨p0, hp0⟩ : ∃ p, pw0 e = p := ⟨_, rfl⟩
  obtain ⟨p1, hp1⟩ : ∃ p, pw1 e = p := ⟨_, rfl⟩
  obtain ⟨p2, hp2⟩ : ∃ p, pw2 e = p := ⟨_, rfl⟩
  rw [hp0, hp1, hp2] at PK RP UB
  clear hp0 hp1 hp2
  obtain ⟨U, hU⟩ : ∃ u, unE x y z = u := ⟨_, rfl⟩
  obtain ⟨ok, hok⟩ : ∃ u, isEnt x y z = u := ⟨_, rfl⟩
  rw [hU, hok] at UP RU PE
  rw [hU] at PU
  clear hU hok
  obtain ⟨l0, hl0⟩ : ∃ p, pw0 U = p := ⟨_, rfl⟩
  obtain ⟨l1, hl1⟩ : ∃ p, pw1 U = p := ⟨_, rfl⟩
  obtain ⟨l2, hl2⟩ : ∃ p, pw2 U = p := ⟨_, rfl⟩
  rw [hl0, hl1, hl2] at PU PE
  clear hl0 hl1 hl2
  obtain ⟨x0, x1, x2⟩ := x
  obtain ⟨y0, y1, y2⟩ := y
  obtain ⟨z0, z1, z2⟩ := z
  obtain ⟨a, ⟨v, n, r⟩, z, b⟩ := e
  obtain ⟨s0, s1, s2⟩ := p0
  obtain ⟨t0, t1, t2⟩ := p1
  obtain ⟨r0, r1, r2⟩ := p2
  obtain ⟨u0, ⟨u1, u2, u3⟩, u4, u5⟩ := U
  unfold enV w3V at *
  simp only at UP RU PK RP UB PU ⊢
  have n1 : ∀ w, (binOp .neq 66 (.agg #[.int .i64 s0, .int .u32 s1, .int .u32 s2, .int .i64 t0, .int .u32 t1, .int .u32 t2, .int .i64 r0, .int .u32 r1, .int .u32 r2]) (.agg #[.int .i64 s0, .int .u32 s1, .int .u32 s2, .int .i64 t0, .int .u32 t1, .int .u32 t2, .int .i64 r0, .int .u32 r1, .int .u32 r2])).run Tryd.prog w = .ok (.bool false) w := fun w => by
    rw [neq3, eq3_dec]; simp
  have n2 : ∀ w, (binOp .neq 49 (.agg #[.int .i64 u0, .int .i64 u1, .int .u32 u2, .int .u32 u3, .int .i64 u4, .bool u5]) (.agg #[.int .i64 u0, .int .i64 u1, .int .u32 u2, .int .u32 u3, .int .i64 u4, .bool u5])).run Tryd.prog w = .ok (.bool false) w := fun w => by
    rw [neqE, eqE_dec]; simp
  have g3 := guard3
  have gE := guardE
  go_enter Tryd.func5, Tryd.ntmps5
  go_upto_region 1 with fail
  have B1 := Lib.hid (below1 w (.cells #[.int .i64 a, .int .i64 v, .int .u32 n, .int .u32 r, .int .i64 z, .bool b] 49))
  have B9 := Lib.hid (below1 (w.alloc (.cells #[.int .i64 a, .int .i64 v, .int .u32 n, .int .u32 r, .int .i64 z, .bool b] 49)) (.cells #[.int .i64 x0, .int .u32 x1, .int .u32 x2, .int .i64 y0, .int .u32 y1, .int .u32 y2, .int .i64 z0, .int .u32 z1, .int .u32 z2] 66))
  have BB := Lib.hid (B1.out.trans (B9.out.mono B1.out.size))
  have B2 := Lib.hid ((Box.new w #[.int .i64 a, .int .i64 v, .int .u32 n, .int .u32 r, .int .i64 z, .bool b] 49 rfl).below B9.out)
  have B3 := Lib.hid (Box.new (w.alloc (.cells #[.int .i64 a, .int .i64 v, .int .u32 n, .int .u32 r, .int .i64 z, .bool b] 49)) #[.int .i64 x0, .int .u32 x1, .int .u32 x2, .int .i64 y0, .int .u32 y1, .int .u32 y2, .int .i64 z0, .int .u32 z1, .int .u32 z2] 66 (n := w.heap.size + 1) (by simp))
  replace HG := Lib.hid (HG.out.below BB.out)
  obtain ⟨W, hW⟩ : ∃ W, ((w.alloc (.cells #[.int .i64 a, .int .i64 v, .int .u32 n, .int .u32 r, .int .i64 z, .bool b] 49)).alloc (.cells #[.int .i64 x0, .int .u32 x1, .int .u32 x2, .int .i64 y0, .int .u32 y1, .int .u32 y2, .int .i64 z0, .int .u32 z1, .int .u32 z2] 66)) = W := ⟨_, rfl⟩
  obtain ⟨q, hq⟩ : ∃ q, w.heap.size = q := ⟨_, rfl⟩
  have HQ := Lib.hid hq
  rw [hW] at BB B2 B3 HG
  rw [hq] at B2 B3
  rw [hW, hq]
  clear hW hq B1 B9
  have k0 := B3.out.cell 0
  have k1 := B3.out.cell 1
  have k2 := B3.out.cell 2
  have k3 := B3.out.cell 3
  have k4 := B3.out.cell 4
  have k5 := B3.out.cell 5
  have k6 := B3.out.cell 6
  have k7 := B3.out.cell 7
  have k8 := B3.out.cell 8
  simp at k0 k1 k2 k3 k4 k5 k6 k7 k8
  go_wp2_with fail
  refine (UP.out _).mono ?_
  rintro e w1 ⟨rfl, hb⟩
  replace B2 := Lib.hid (B2.out.below hb)
  replace B3 := Lib.hid (B3.out.below hb)
  replace HG := Lib.hid (HG.out.below hb)
  replace BB := Lib.hid (BB.out.trans (hb.mono BB.out.size))
  clear hb k0 k1 k2 k3 k4 k5 k6 k7 k8
  go_upto_region 2 with fail
  have L5 := Lib.hid B2.out.lt
  have X5 := Lib.hid (Box.new w1 #[.int .i64 u0, .int .i64 u1, .int .u32 u2, .int .u32 u3, .int .i64 u4, .bool u5] 49 rfl)
  have B1 := Lib.hid (below1 w1 (.cells #[.int .i64 u0, .int .i64 u1, .int .u32 u2, .int .u32 u3, .int .i64 u4, .bool u5] 49))
  replace B2 := Lib.hid (B2.out.below B1.out)
  replace B3 := Lib.hid (B3.out.below B1.out)
  replace HG := Lib.hid (HG.out.below B1.out)
  replace BB := Lib.hid (BB.out.trans (B1.out.mono BB.out.size))
  clear B1
  generalize w1.alloc (.cells #[.int .i64 u0, .int .i64 u1, .int .u32 u2, .int .u32 u3, .int .i64 u4, .bool u5] 49) = W1 at *
  generalize w1.heap.size = q5 at *
  have k0 := B3.out.cell 0
  have k1 := B3.out.cell 1
  have k2 := B3.out.cell 2
  have k3 := B3.out.cell 3
  have k4 := B3.out.cell 4
  have k5 := B3.out.cell 5
  have k6 := B3.out.cell 6
  have k7 := B3.out.cell 7
  have k8 := B3.out.cell 8
  simp at k0 k1 k2 k3 k4 k5 k6 k7 k8
  go_wp2_with fail
  refine (RU.out _).mono ?_
  rintro e w2 ⟨rfl, hb⟩
  replace B2 := Lib.hid (B2.out.below hb)
  replace B3 := Lib.hid (B3.out.below hb)
  replace HG := Lib.hid (HG.out.below hb)
  replace X5 := Lib.hid (X5.out.below hb)
  replace BB := Lib.hid (BB.out.trans (hb.mono BB.out.size))
  clear hb k0 k1 k2 k3 k4 k5 k6 k7 k8
  go_upto_region 3 with fail
  have Y7 := Lib.hid (Box.new w2 #[.int .i64 u0, .int .i64 u1, .int .u32 u2, .int .u32 u3, .int .i64 u4, .bool u5] 49 rfl)
  have B1 := Lib.hid (below1 w2 (.cells #[.int .i64 u0, .int .i64 u1, .int .u32 u2, .int .u32 u3, .int .i64 u4, .bool u5] 49))
  replace B2 := Lib.hid (B2.out.below B1.out)
  replace B3 := Lib.hid (B3.out.below B1.out)
  replace HG := Lib.hid (HG.out.below B1.out)
  replace X5 := Lib.hid (X5.out.below B1.out)
  replace BB := Lib.hid (BB.out.trans (B1.out.mono BB.out.size))
  clear B1
  generalize w2.alloc (.cells #[.int .i64 u0, .int .i64 u1, .int .u32 u2, .int .u32 u3, .int .i64 u4, .bool u5] 49) = W2 at *
  generalize w2.heap.size = q7 at *
  have e1 : ∀ w, (binOp .eql 49 (.agg #[.int .i64 a, .int .i64 v, .int .u32 n, .int .u32 0, .int .i64 z, .bool b]) (.agg #[.int .i64 a, .int .i64 v, .int .u32 n, .int .u32 0, .int .i64 z, .bool b])).run Tryd.prog w = .ok (.bool true) w := fun w => by
    rw [eqlE, eqE_dec]; simp
  have e3 : ∀ w, (binOp .eql 66 (.agg #[.int .i64 x0, .int .u32 x1, .int .u32 x2, .int .i64 y0, .int .u32 y1, .int .u32 y2, .int .i64 z0, .int .u32 z1, .int .u32 z2]) (.agg #[.int .i64 x0, .int .u32 x1, .int .u32 x2, .int .i64 y0, .int .u32 y1, .int .u32 y2, .int .i64 z0, .int .u32 z1, .int .u32 z2])).run Tryd.prog w = .ok (.bool true) w := fun w => by
    rw [eql3, eq3_dec]; simp
  have okk : (ok != ok) = false := by cases ok <;> rfl
  replace B2 := Lib.hid (B2.out.below ((Below.refl _ _).drew))
  replace B3 := Lib.hid (B3.out.below ((Below.refl _ _).drew))
  replace HG := Lib.hid (HG.out.below ((Below.refl _ _).drew))
  replace X5 := Lib.hid (X5.out.below ((Below.refl _ _).drew))
  replace Y7 := Lib.hid (Y7.out.below ((Below.refl _ _).drew))
  replace BB := Lib.hid (BB.out.trans (((Below.refl _ _).drew).mono BB.out.size))
  refine wp_region_held_drew (S := fun w' => w'.cell? ⟨q, 0, none⟩ = some (.int .i64 a) ∧ w'.cell? ⟨q, 1, none⟩ = some (.int .i64 v) ∧ w'.cell? ⟨q, 2, none⟩ = some (.int .u32 n) ∧ w'.cell? ⟨q, 3, none⟩ = some (.int .u32 r) ∧ w'.cell? ⟨q, 4, none⟩ = some (.int .i64 z) ∧ w'.cell? ⟨q, 5, none⟩ = some (.bool b) ∧ w'.cell? ⟨q + 1, 0, none⟩ = some (.int .i64 x0) ∧ w'.cell? ⟨q + 1, 1, none⟩ = some (.int .u32 x1) ∧ w'.cell? ⟨q + 1, 2, none⟩ = some (.int .u32 x2) ∧ w'.cell? ⟨q + 1, 3, none⟩ = some (.int .i64 y0) ∧ w'.cell? ⟨q + 1, 4, none⟩ = some (.int .u32 y1) ∧ w'.cell? ⟨q + 1, 5, none⟩ = some (.int .u32 y2) ∧ w'.cell? ⟨q + 1, 6, none⟩ = some (.int .i64 z0) ∧ w'.cell? ⟨q + 1, 7, none⟩ = some (.int .u32 z1) ∧ w'.cell? ⟨q + 1, 8, none⟩ = some (.int .u32 z2) ∧ w'.cell? ⟨q5, 0, none⟩ = some (.int .i64 u0) ∧ w'.cell? ⟨q5, 1, none⟩ = some (.int .i64 u1) ∧ w'.cell? ⟨q5, 2, none⟩ = some (.int .u32 u2) ∧ w'.cell? ⟨q5, 3, none⟩ = some (.int .u32 u3) ∧ w'.cell? ⟨q5, 4, none⟩ = some (.int .i64 u4) ∧ w'.cell? ⟨q5, 5, none⟩ = some (.bool u5) ∧ w'.cell? ⟨q7, 0, none⟩ = some (.int .i64 u0) ∧ w'.cell? ⟨q7, 1, none⟩ = some (.int .i64 u1) ∧ w'.cell? ⟨q7, 2, none⟩ = some (.int .u32 u2) ∧ w'.cell? ⟨q7, 3, none⟩ = some (.int .u32 u3) ∧ w'.cell? ⟨q7, 4, none⟩ = some (.int .i64 u4) ∧ w'.cell? ⟨q7, 5, none⟩ = some (.bool u5)) (by kernel_rfl) ⟨(B2.out.cell 0), (B2.out.cell 1), (B2.out.cell 2), (B2.out.cell 3), (B2.out.cell 4), (B2.out.cell 5), (B3.out.cell 0), (B3.out.cell 1), (B3.out.cell 2), (B3.out.cell 3), (B3.out.cell 4), (B3.out.cell 5), (B3.out.cell 6), (B3.out.cell 7), (B3.out.cell 8), (X5.out.cell 0), (X5.out.cell 1), (X5.out.cell 2), (X5.out.cell 3), (X5.out.cell 4), (X5.out.cell 5), (Y7.out.cell 0), (Y7.out.cell 1), (Y7.out.cell 2), (Y7.out.cell 3), (Y7.out.cell 4), (Y7.out.cell 5)⟩ (fun hHeld => ?_)
  generalize World.drew W2 = V30 at *
  refine wpAnyH_take (i := 0) (oi := { dst := some 21, op := Op.load 49 (Operand.tmp 2), type := 49, pos := "law.go:184", after := #[], guard := none }) (v := ?d31_1xv0) rfl (by kernel_rfl) (by kernel_rfl) (by kernel_rfl) (fun _ _ _ h => h) (Or.inl ⟨by rfl, ?d31_1xy0⟩) (by assumption) ?d31_1xr0
  case d31_1xy0 => (intro w hSw; (try dsimp only at hSw); go_simp; try with_reducible rfl)
  (try simp only [Act.put])
  (try simp only [List.setIfInBounds_toArray])
  (try simp only [List.set_cons_succ])
  (try simp only [List.set_cons_zero])
  refine wpAnyH_take (i := 2) (oi := { dst := some 23, op := Op.load 49 (Operand.tmp 2), type := 49, pos := "law.go:184", after := #[], guard := none }) (v := ?d31_2xv2) rfl (by kernel_rfl) (by kernel_rfl) (by kernel_rfl) (fun _ _ _ h => h) (Or.inl ⟨by rfl, ?d31_2xy2⟩) (by assumption) ?d31_2xr2
  case d31_2xy2 => (intro w hSw; (try dsimp only at hSw); go_simp; try with_reducible rfl)
  (try simp only [Act.put])
  (try simp only [List.setIfInBounds_toArray])
  (try simp only [List.set_cons_succ])
  (try simp only [List.set_cons_zero])
  refine wpAnyH_ready (rs := [1]) (by kernel_rfl) (by simp) ?_
  refine AllReadyH.cons (o := { dst := some 22, op := Op.call { callee := Callee.value (Operand.func 27), args := #[Operand.tmp 21], argTypes := #[49] }, type := 66, pos := "law.go:184", after := #[{ on := 0, ground := Ground.data }], guard := none }) rfl (fun K hK => ?_) AllReadyH.nil
  go_simp
  go_at_call 27
  refine (PK.out _).mono ?_
  rintro e v31 ⟨rfl, hb⟩
  replace B2 := Lib.hid (B2.out.below (hb))
  replace B3 := Lib.hid (B3.out.below (hb))
  replace HG := Lib.hid (HG.out.below (hb))
  replace X5 := Lib.hid (X5.out.below (hb))
  replace Y7 := Lib.hid (Y7.out.below (hb))
  replace BB := Lib.hid (BB.out.trans ((hb).mono BB.out.size))
  clear hb
  go_simp
  refine hK.out _ _ ?_ (fun hHeld => ?_)
  · exact ⟨(B2.out.cell 0), (B2.out.cell 1), (B2.out.cell 2), (B2.out.cell 3), (B2.out.cell 4), (B2.out.cell 5), (B3.out.cell 0), (B3.out.cell 1), (B3.out.cell 2), (B3.out.cell 3), (B3.out.cell 4), (B3.out.cell 5), (B3.out.cell 6), (B3.out.cell 7), (B3.out.cell 8), (X5.out.cell 0), (X5.out.cell 1), (X5.out.cell 2), (X5.out.cell 3), (X5.out.cell 4), (X5.out.cell 5), (Y7.out.cell 0), (Y7.out.cell 1), (Y7.out.cell 2), (Y7.out.cell 3), (Y7.out.cell 4), (Y7.out.cell 5)⟩
  clear hK K
  (try simp only [Act.put])
  (try simp only [List.setIfInBounds_toArray])
  (try simp only [List.set_cons_succ])
  (try simp only [List.set_cons_zero])
  refine wpAnyH_ready (rs := [3]) (by kernel_rfl) (by simp) ?_
  refine AllReadyH.cons (o := { dst := some 24, op := Op.call { callee := Callee.value (Operand.func 28), args := #[Operand.tmp 23], argTypes := #[49] }, type := 66, pos := "law.go:184", after := #[{ on := 2, ground := Ground.data }, { on := 1, ground := Ground.chain }], guard := none }) rfl (fun K hK => ?_) AllReadyH.nil
  go_simp
  go_at_call 28
  refine (RP.out _).mono ?_
  rintro e v32 ⟨rfl, hb⟩
  replace B2 := Lib.hid (B2.out.below (hb))
  replace B3 := Lib.hid (B3.out.below (hb))
  replace HG := Lib.hid (HG.out.below (hb))
  replace X5 := Lib.hid (X5.out.below (hb))
  replace Y7 := Lib.hid (Y7.out.below (hb))
  replace BB := Lib.hid (BB.out.trans ((hb).mono BB.out.size))
  clear hb
  go_simp
  refine hK.out _ _ ?_ (fun hHeld => ?_)
  · exact ⟨(B2.out.cell 0), (B2.out.cell 1), (B2.out.cell 2), (B2.out.cell 3), (B2.out.cell 4), (B2.out.cell 5), (B3.out.cell 0), (B3.out.cell 1), (B3.out.cell 2), (B3.out.cell 3), (B3.out.cell 4), (B3.out.cell 5), (B3.out.cell 6), (B3.out.cell 7), (B3.out.cell 8), (X5.out.cell 0), (X5.out.cell 1), (X5.out.cell 2), (X5.out.cell 3), (X5.out.cell 4), (X5.out.cell 5), (Y7.out.cell 0), (Y7.out.cell 1), (Y7.out.cell 2), (Y7.out.cell 3), (Y7.out.cell 4), (Y7.out.cell 5)⟩
  clear hK K
  (try simp only [Act.put])
  (try simp only [List.setIfInBounds_toArray])
  (try simp only [List.set_cons_succ])
  (try simp only [List.set_cons_zero])
  refine wpAnyH_take (i := 4) (oi := { dst := some 25, op := Op.binOp BinOp.neq 66 (Operand.tmp 22) (Operand.tmp 24) 66, type := 4, pos := "law.go:184", after := #[{ on := 1, ground := Ground.data }, { on := 3, ground := Ground.data }], guard := none }) (v := ?d33_3xv4) rfl (by kernel_rfl) (by kernel_rfl) (by kernel_rfl) (fun _ _ _ h => h) (Or.inl ⟨by rfl, ?d33_3xy4⟩) (by assumption) ?d33_3xr4
  case d33_3xy4 => (intro w hSw; (try dsimp only at hSw); go_simp; try with_reducible rfl)
  (try simp only [Act.put])
  (try simp only [List.setIfInBounds_toArray])
  (try simp only [List.set_cons_succ])
  (try simp only [List.set_cons_zero])
  refine wpAnyH_take (i := 5) (oi := { dst := some 26, op := Op.move (Operand.tmp 25), type := 4, pos := "law.go:184", after := #[{ on := 4, ground := Ground.data }, { on := 3, ground := Ground.chain }], guard := none }) (v := ?d33_4xv5) rfl (by kernel_rfl) (by kernel_rfl) (by kernel_rfl) (fun _ _ _ h => h) (Or.inl ⟨by rfl, ?d33_4xy5⟩) (by assumption) ?d33_4xr5
  case d33_4xy5 => (intro w hSw; (try dsimp only at hSw); go_simp; try with_reducible rfl)
  (try simp only [Act.put])
  (try simp only [List.setIfInBounds_toArray])
  (try simp only [List.set_cons_succ])
  (try simp only [List.set_cons_zero])
  refine wpAnyH_take (i := 6) (oi := { dst := some 27, op := Op.move (Operand.tmp 6), type := 4, pos := "law.go:184", after := #[{ on := 5, ground := Ground.guard }], guard := some (5, false) }) (v := ?d33_5xv6) rfl (by kernel_rfl) (by kernel_rfl) (by kernel_rfl) (fun _ _ _ h => h) (Or.inl ⟨by rfl, ?d33_5xy6⟩) (by assumption) ?d33_5xr6
  case d33_5xy6 => (intro w hSw; (try dsimp only at hSw); go_simp; try with_reducible rfl)
  (try simp only [Act.put])
  (try simp only [List.setIfInBounds_toArray])
  (try simp only [List.set_cons_succ])
  (try simp only [List.set_cons_zero])
  refine wpAnyH_take (i := 7) (oi := { dst := some 28, op := Op.move (Operand.tmp 8), type := 4, pos := "law.go:184", after := #[{ on := 5, ground := Ground.guard }], guard := some (5, false) }) (v := ?d33_6xv7) rfl (by kernel_rfl) (by kernel_rfl) (by kernel_rfl) (fun _ _ _ h => h) (Or.inl ⟨by rfl, ?d33_6xy7⟩) (by assumption) ?d33_6xr7
  case d33_6xy7 => (intro w hSw; (try dsimp only at hSw); go_simp; try with_reducible rfl)
  (try simp only [Act.put])
  (try simp only [List.setIfInBounds_toArray])
  (try simp only [List.set_cons_succ])
  (try simp only [List.set_cons_zero])
  refine wpAnyH_take (i := 8) (oi := { dst := some 29, op := Op.binOp BinOp.neq 4 (Operand.tmp 27) (Operand.tmp 28) 4, type := 4, pos := "law.go:184", after := #[{ on := 6, ground := Ground.data }, { on := 7, ground := Ground.data }, { on := 5, ground := Ground.guard }], guard := some (5, false) }) (v := ?d33_7xv8) rfl (by kernel_rfl) (by kernel_rfl) (by kernel_rfl) (fun _ _ _ h => h) (Or.inl ⟨by rfl, ?d33_7xy8⟩) (by assumption) ?d33_7xr8
  case d33_7xy8 => (intro w hSw; (try dsimp only at hSw); go_simp; try with_reducible rfl)
  (try simp only [Act.put])
  (try simp only [List.setIfInBounds_toArray])
  (try simp only [List.set_cons_succ])
  (try simp only [List.set_cons_zero])
  refine wpAnyH_take (i := 9) (oi := { dst := some 30, op := Op.pick (Operand.tmp 26) (Operand.const (Value.bool true)) (Operand.tmp 29), type := 4, pos := "law.go:184", after := #[{ on := 5, ground := Ground.data }, { on := 8, ground := Ground.data }], guard := none }) (v := ?d33_8xv9) rfl (by kernel_rfl) (by kernel_rfl) (by kernel_rfl) (fun _ _ _ h => h) (Or.inl ⟨by rfl, ?d33_8xy9⟩) (by assumption) ?d33_8xr9
  case d33_8xy9 => (intro w hSw; (try dsimp only at hSw); go_simp; try with_reducible rfl)
  (try simp only [Act.put])
  (try simp only [List.setIfInBounds_toArray])
  (try simp only [List.set_cons_succ])
  (try simp only [List.set_cons_zero])
  refine wpAnyH_take (i := 10) (oi := { dst := some 31, op := Op.move (Operand.tmp 30), type := 4, pos := "law.go:184", after := #[{ on := 9, ground := Ground.data }, { on := 5, ground := Ground.chain }], guard := none }) (v := ?d33_9xv10) rfl (by kernel_rfl) (by kernel_rfl) (by kernel_rfl) (fun _ _ _ h => h) (Or.inl ⟨by rfl, ?d33_9xy10⟩) (by assumption) ?d33_9xr10
  case d33_9xy10 => (intro w hSw; (try dsimp only at hSw); go_simp; try with_reducible rfl)
  (try simp only [Act.put])
  (try simp only [List.setIfInBounds_toArray])
  (try simp only [List.set_cons_succ])
  (try simp only [List.set_cons_zero])
  refine wpAnyH_take (i := 11) (oi := { dst := some 32, op := Op.load 49 (Operand.tmp 5), type := 49, pos := "law.go:184", after := #[{ on := 10, ground := Ground.guard }], guard := some (10, false) }) (v := ?d33_10xv11) rfl (by kernel_rfl) (by kernel_rfl) (by kernel_rfl) (fun _ _ _ h => h) (Or.inl ⟨by rfl, ?d33_10xy11⟩) (by assumption) ?d33_10xr11
  case d33_10xy11 => (intro w hSw; (try dsimp only at hSw); go_simp; try with_reducible rfl)
  (try simp only [Act.put])
  (try simp only [List.setIfInBounds_toArray])
  (try simp only [List.set_cons_succ])
  (try simp only [List.set_cons_zero])
  refine wpAnyH_take (i := 12) (oi := { dst := some 33, op := Op.load 49 (Operand.tmp 7), type := 49, pos := "law.go:184", after := #[{ on := 10, ground := Ground.guard }], guard := some (10, false) }) (v := ?d33_11xv12) rfl (by kernel_rfl) (by kernel_rfl) (by kernel_rfl) (fun _ _ _ h => h) (Or.inl ⟨by rfl, ?d33_11xy12⟩) (by assumption) ?d33_11xr12
  case d33_11xy12 => (intro w hSw; (try dsimp only at hSw); go_simp; try with_reducible rfl)
  (try simp only [Act.put])
  (try simp only [List.setIfInBounds_toArray])
  (try simp only [List.set_cons_succ])
  (try simp only [List.set_cons_zero])
  refine wpAnyH_take (i := 13) (oi := { dst := some 34, op := Op.binOp BinOp.neq 49 (Operand.tmp 32) (Operand.tmp 33) 49, type := 4, pos := "law.go:184", after := #[{ on := 11, ground := Ground.data }, { on := 12, ground := Ground.data }, { on := 10, ground := Ground.guard }], guard := some (10, false) }) (v := ?d33_12xv13) rfl (by kernel_rfl) (by kernel_rfl) (by kernel_rfl) (fun _ _ _ h => h) (Or.inl ⟨by rfl, ?d33_12xy13⟩) (by assumption) ?d33_12xr13
  case d33_12xy13 => (intro w hSw; (try dsimp only at hSw); go_simp; try with_reducible rfl)
  (try simp only [Act.put])
  (try simp only [List.setIfInBounds_toArray])
  (try simp only [List.set_cons_succ])
  (try simp only [List.set_cons_zero])
  refine wpAnyH_take (i := 14) (oi := { dst := some 35, op := Op.pick (Operand.tmp 31) (Operand.const (Value.bool true)) (Operand.tmp 34), type := 4, pos := "law.go:184", after := #[{ on := 10, ground := Ground.data }, { on := 13, ground := Ground.data }], guard := none }) (v := ?d33_13xv14) rfl (by kernel_rfl) (by kernel_rfl) (by kernel_rfl) (fun _ _ _ h => h) (Or.inl ⟨by rfl, ?d33_13xy14⟩) (by assumption) ?d33_13xr14
  case d33_13xy14 => (intro w hSw; (try dsimp only at hSw); go_simp; try with_reducible rfl)
  (try simp only [Act.put])
  (try simp only [List.setIfInBounds_toArray])
  (try simp only [List.set_cons_succ])
  (try simp only [List.set_cons_zero])
  refine wpAnyH_done (by kernel_rfl) ?_ _
  generalize v32 = V9 at *
  clear hHeld
  have k0 := B2.out.cell 0
  have k1 := B2.out.cell 1
  have k2 := B2.out.cell 2
  have k3 := B2.out.cell 3
  have k4 := B2.out.cell 4
  have k5 := B2.out.cell 5
  simp at k0 k1 k2 k3 k4 k5
  go_wp2_with fail
  refine (PK.out _).mono ?_
  rintro e w3 ⟨rfl, hb⟩
  replace B2 := Lib.hid (B2.out.below hb)
  replace B3 := Lib.hid (B3.out.below hb)
  replace HG := Lib.hid (HG.out.below hb)
  replace X5 := Lib.hid (X5.out.below hb)
  replace BB := Lib.hid (BB.out.trans (hb.mono BB.out.size))
  clear hb k0 k1 k2 k3 k4 k5 Y7
  go_wp2_with fail
  refine (UB.out _).mono ?_
  rintro e w4 ⟨rfl, hb⟩
  replace B2 := Lib.hid (B2.out.below hb)
  replace B3 := Lib.hid (B3.out.below hb)
  replace HG := Lib.hid (HG.out.below hb)
  replace X5 := Lib.hid (X5.out.below hb)
  replace BB := Lib.hid (BB.out.trans (hb.mono BB.out.size))
  clear hb UB RU UP PK RP
  by_cases hr : 0 ≤ a ∧ a < 4096
  · obtain ⟨hr0, hr1⟩ := hr
    rw [decide_eq_true (show 0 ≤ a ∧ a < 4096 from ⟨hr0, hr1⟩), if_pos rfl]
    simp only
    go_upto_region 6 with fail
    have L9 := Lib.hid B2.out.lt
    have Z9 := Lib.hid (Box.new w4 #[.int .i64 a, .int .i64 v, .int .u32 n, .int .u32 0, .int .i64 z, .bool b] 49 rfl)
    have B1 := Lib.hid (below1 w4 (.cells #[.int .i64 a, .int .i64 v, .int .u32 n, .int .u32 0, .int .i64 z, .bool b] 49))
    replace B2 := Lib.hid (B2.out.below B1.out)
    replace B3 := Lib.hid (B3.out.below B1.out)
    replace HG := Lib.hid (HG.out.below B1.out)
    replace X5 := Lib.hid (X5.out.below B1.out)
    replace BB := Lib.hid (BB.out.trans (B1.out.mono BB.out.size))
    clear B1
    generalize w4.alloc (.cells #[.int .i64 a, .int .i64 v, .int .u32 n, .int .u32 0, .int .i64 z, .bool b] 49) = W4 at *
    generalize w4.heap.size = q9 at *
    have k0 := B2.out.cell 0
    have k1 := B2.out.cell 1
    have k2 := B2.out.cell 2
    have k3 := B2.out.cell 3
    have k4 := B2.out.cell 4
    have k5 := B2.out.cell 5
    simp at k0 k1 k2 k3 k4 k5
    have f3 := B2.out.free 3
    have l0 := B2.out.lt
    go_upto_region 9 with fail
    clear k0 k1 k2 k3 k4 k5 f3 l0
    replace B2 : Hid (Box (W4.setCell ⟨q, 3, none⟩ (.int .u32 0)) q #[.int .i64 a, .int .i64 v, .int .u32 n, .int .u32 0, .int .i64 z, .bool b] 49) := Lib.hid (B2.out.set 3 _)
    replace B3 : Hid (Box (W4.setCell ⟨q, 3, none⟩ (.int .u32 0)) (q + 1) #[.int .i64 x0, .int .u32 x1, .int .u32 x2, .int .i64 y0, .int .u32 y1, .int .u32 y2, .int .i64 z0, .int .u32 z1, .int .u32 z2] 66) := Lib.hid (B3.out.other (by omega) 3 _)
    replace X5 : Hid (Box (W4.setCell ⟨q, 3, none⟩ (.int .u32 0)) q5 #[.int .i64 u0, .int .i64 u1, .int .u32 u2, .int .u32 u3, .int .i64 u4, .bool u5] 49) := Lib.hid (X5.out.other (by have := L5.out; omega) 3 _)
    replace Z9 : Hid (Box (W4.setCell ⟨q, 3, none⟩ (.int .u32 0)) q9 #[.int .i64 a, .int .i64 v, .int .u32 n, .int .u32 0, .int .i64 z, .bool b] 49) := Lib.hid (Z9.out.other (by have := L9.out; omega) 3 _)
    replace BB : Hid (Below w.heap.size w (W4.setCell ⟨q, 3, none⟩ (.int .u32 0))) := Lib.hid (BB.out.setCell (show w.heap.size ≤ q from Nat.le_of_eq HQ.out) (.int .u32 0))
    replace HG := Lib.hid (HG0.out.below BB.out)
    generalize W4.setCell ⟨q, 3, none⟩ (.int .u32 0) = W5 at *
    cases ok with
    | true =>
      obtain ⟨h1, h2, h3⟩ := PE.out rfl
      rw [h1, h2, h3] at PU
      simp only at PU
      replace B2 := Lib.hid (B2.out.below ((Below.refl _ _).drew))
      replace B3 := Lib.hid (B3.out.below ((Below.refl _ _).drew))
      replace HG := Lib.hid (HG.out.below ((Below.refl _ _).drew))
      replace X5 := Lib.hid (X5.out.below ((Below.refl _ _).drew))
      replace Z9 := Lib.hid (Z9.out.below ((Below.refl _ _).drew))
      replace BB := Lib.hid (BB.out.trans (((Below.refl _ _).drew).mono BB.out.size))
      refine wp_region_held_drew (S := fun w' => w'.cell? ⟨q, 0, none⟩ = some (.int .i64 a) ∧ w'.cell? ⟨q, 1, none⟩ = some (.int .i64 v) ∧ w'.cell? ⟨q, 2, none⟩ = some (.int .u32 n) ∧ w'.cell? ⟨q, 3, none⟩ = some (.int .u32 0) ∧ w'.cell? ⟨q, 4, none⟩ = some (.int .i64 z) ∧ w'.cell? ⟨q, 5, none⟩ = some (.bool b) ∧ w'.cell? ⟨q + 1, 0, none⟩ = some (.int .i64 x0) ∧ w'.cell? ⟨q + 1, 1, none⟩ = some (.int .u32 x1) ∧ w'.cell? ⟨q + 1, 2, none⟩ = some (.int .u32 x2) ∧ w'.cell? ⟨q + 1, 3, none⟩ = some (.int .i64 y0) ∧ w'.cell? ⟨q + 1, 4, none⟩ = some (.int .u32 y1) ∧ w'.cell? ⟨q + 1, 5, none⟩ = some (.int .u32 y2) ∧ w'.cell? ⟨q + 1, 6, none⟩ = some (.int .i64 z0) ∧ w'.cell? ⟨q + 1, 7, none⟩ = some (.int .u32 z1) ∧ w'.cell? ⟨q + 1, 8, none⟩ = some (.int .u32 z2) ∧ w'.cell? ⟨q5, 0, none⟩ = some (.int .i64 u0) ∧ w'.cell? ⟨q5, 1, none⟩ = some (.int .i64 u1) ∧ w'.cell? ⟨q5, 2, none⟩ = some (.int .u32 u2) ∧ w'.cell? ⟨q5, 3, none⟩ = some (.int .u32 u3) ∧ w'.cell? ⟨q5, 4, none⟩ = some (.int .i64 u4) ∧ w'.cell? ⟨q5, 5, none⟩ = some (.bool u5) ∧ w'.cell? ⟨q9, 0, none⟩ = some (.int .i64 a) ∧ w'.cell? ⟨q9, 1, none⟩ = some (.int .i64 v) ∧ w'.cell? ⟨q9, 2, none⟩ = some (.int .u32 n) ∧ w'.cell? ⟨q9, 3, none⟩ = some (.int .u32 0) ∧ w'.cell? ⟨q9, 4, none⟩ = some (.int .i64 z) ∧ w'.cell? ⟨q9, 5, none⟩ = some (.bool b)) (by kernel_rfl) ⟨(B2.out.cell 0), (B2.out.cell 1), (B2.out.cell 2), (B2.out.cell 3), (B2.out.cell 4), (B2.out.cell 5), (B3.out.cell 0), (B3.out.cell 1), (B3.out.cell 2), (B3.out.cell 3), (B3.out.cell 4), (B3.out.cell 5), (B3.out.cell 6), (B3.out.cell 7), (B3.out.cell 8), (X5.out.cell 0), (X5.out.cell 1), (X5.out.cell 2), (X5.out.cell 3), (X5.out.cell 4), (X5.out.cell 5), (Z9.out.cell 0), (Z9.out.cell 1), (Z9.out.cell 2), (Z9.out.cell 3), (Z9.out.cell 4), (Z9.out.cell 5)⟩ (fun hHeld => ?_)
      generalize World.drew W5 = V60 at *
      refine wpAnyH_take (i := 0) (oi := { dst := some 54, op := Op.move (Operand.tmp 10), type := 4, pos := "law.go:192", after := #[], guard := none }) (v := ?d61_1xv0) rfl (by kernel_rfl) (by kernel_rfl) (by kernel_rfl) (fun _ _ _ h => h) (Or.inl ⟨by rfl, ?d61_1xy0⟩) (by assumption) ?d61_1xr0
      case d61_1xy0 => (intro w hSw; (try dsimp only at hSw); go_simp; try with_reducible rfl)
      (try simp only [Act.put])
      (try simp only [List.setIfInBounds_toArray])
      (try simp only [List.set_cons_succ])
      (try simp only [List.set_cons_zero])
      refine wpAnyH_take (i := 1) (oi := { dst := some 55, op := Op.unOp UnOp.not 4 (Operand.tmp 54), type := 4, pos := "law.go:192", after := #[{ on := 0, ground := Ground.data }], guard := none }) (v := ?d61_2xv1) rfl (by kernel_rfl) (by kernel_rfl) (by kernel_rfl) (fun _ _ _ h => h) (Or.inl ⟨by rfl, ?d61_2xy1⟩) (by assumption) ?d61_2xr1
      case d61_2xy1 => (intro w hSw; (try dsimp only at hSw); go_simp; try with_reducible rfl)
      (try simp only [Act.put])
      (try simp only [List.setIfInBounds_toArray])
      (try simp only [List.set_cons_succ])
      (try simp only [List.set_cons_zero])
      refine wpAnyH_take (i := 2) (oi := { dst := some 56, op := Op.move (Operand.tmp 55), type := 4, pos := "law.go:192", after := #[{ on := 1, ground := Ground.data }], guard := none }) (v := ?d61_3xv2) rfl (by kernel_rfl) (by kernel_rfl) (by kernel_rfl) (fun _ _ _ h => h) (Or.inl ⟨by rfl, ?d61_3xy2⟩) (by assumption) ?d61_3xr2
      case d61_3xy2 => (intro w hSw; (try dsimp only at hSw); go_simp; try with_reducible rfl)
      (try simp only [Act.put])
      (try simp only [List.setIfInBounds_toArray])
      (try simp only [List.set_cons_succ])
      (try simp only [List.set_cons_zero])
      refine wpAnyH_take (i := 3) (oi := { dst := some 57, op := Op.load 49 (Operand.tmp 9), type := 49, pos := "law.go:192", after := #[{ on := 2, ground := Ground.guard }], guard := some (2, false) }) (v := ?d61_4xv3) rfl (by kernel_rfl) (by kernel_rfl) (by kernel_rfl) (fun _ _ _ h => h) (Or.inl ⟨by rfl, ?d61_4xy3⟩) (by assumption) ?d61_4xr3
      case d61_4xy3 => (intro w hSw; (try dsimp only at hSw); go_simp; try with_reducible rfl)
      (try simp only [Act.put])
      (try simp only [List.setIfInBounds_toArray])
      (try simp only [List.set_cons_succ])
      (try simp only [List.set_cons_zero])
      refine wpAnyH_take (i := 4) (oi := { dst := some 58, op := Op.load 49 (Operand.tmp 2), type := 49, pos := "law.go:192", after := #[{ on := 2, ground := Ground.guard }], guard := some (2, false) }) (v := ?d61_5xv4) rfl (by kernel_rfl) (by kernel_rfl) (by kernel_rfl) (fun _ _ _ h => h) (Or.inl ⟨by rfl, ?d61_5xy4⟩) (by assumption) ?d61_5xr4
      case d61_5xy4 => (intro w hSw; (try dsimp only at hSw); go_simp; try with_reducible rfl)
      (try simp only [Act.put])
      (try simp only [List.setIfInBounds_toArray])
      (try simp only [List.set_cons_succ])
      (try simp only [List.set_cons_zero])
      refine wpAnyH_take (i := 5) (oi := { dst := some 59, op := Op.binOp BinOp.eql 49 (Operand.tmp 57) (Operand.tmp 58) 49, type := 4, pos := "law.go:192", after := #[{ on := 3, ground := Ground.data }, { on := 4, ground := Ground.data }, { on := 2, ground := Ground.guard }], guard := some (2, false) }) (v := ?d61_6xv5) rfl (by kernel_rfl) (by kernel_rfl) (by kernel_rfl) (fun _ _ _ h => h) (Or.inl ⟨by rfl, ?d61_6xy5⟩) (by assumption) ?d61_6xr5
      case d61_6xy5 => (intro w hSw; (try dsimp only at hSw); go_simp; try with_reducible rfl)
      (try simp only [Act.put])
      (try simp only [List.setIfInBounds_toArray])
      (try simp only [List.set_cons_succ])
      (try simp only [List.set_cons_zero])
      refine wpAnyH_take (i := 6) (oi := { dst := some 60, op := Op.pick (Operand.tmp 56) (Operand.const (Value.bool true)) (Operand.tmp 59), type := 4, pos := "law.go:192", after := #[{ on := 2, ground := Ground.data }, { on := 5, ground := Ground.data }], guard := none }) (v := ?d61_7xv6) rfl (by kernel_rfl) (by kernel_rfl) (by kernel_rfl) (fun _ _ _ h => h) (Or.inl ⟨by rfl, ?d61_7xy6⟩) (by assumption) ?d61_7xr6
      case d61_7xy6 => (intro w hSw; (try dsimp only at hSw); go_simp; try with_reducible rfl)
      (try simp only [Act.put])
      (try simp only [List.setIfInBounds_toArray])
      (try simp only [List.set_cons_succ])
      (try simp only [List.set_cons_zero])
      refine wpAnyH_take (i := 7) (oi := { dst := some 61, op := Op.move (Operand.tmp 60), type := 4, pos := "law.go:192", after := #[{ on := 6, ground := Ground.data }, { on := 2, ground := Ground.chain }], guard := none }) (v := ?d61_8xv7) rfl (by kernel_rfl) (by kernel_rfl) (by kernel_rfl) (fun _ _ _ h => h) (Or.inl ⟨by rfl, ?d61_8xy7⟩) (by assumption) ?d61_8xr7
      case d61_8xy7 => (intro w hSw; (try dsimp only at hSw); go_simp; try with_reducible rfl)
      (try simp only [Act.put])
      (try simp only [List.setIfInBounds_toArray])
      (try simp only [List.set_cons_succ])
      (try simp only [List.set_cons_zero])
      refine wpAnyH_take (i := 8) (oi := { dst := some 62, op := Op.move (Operand.tmp 6), type := 4, pos := "law.go:192", after := #[{ on := 7, ground := Ground.guard }], guard := some (7, true) }) (v := ?d61_9xv8) rfl (by kernel_rfl) (by kernel_rfl) (by kernel_rfl) (fun _ _ _ h => h) (Or.inl ⟨by rfl, ?d61_9xy8⟩) (by assumption) ?d61_9xr8
      case d61_9xy8 => (intro w hSw; (try dsimp only at hSw); go_simp; try with_reducible rfl)
      (try simp only [Act.put])
      (try simp only [List.setIfInBounds_toArray])
      (try simp only [List.set_cons_succ])
      (try simp only [List.set_cons_zero])
      refine wpAnyH_take (i := 9) (oi := { dst := some 63, op := Op.unOp UnOp.not 4 (Operand.tmp 62), type := 4, pos := "law.go:192", after := #[{ on := 8, ground := Ground.data }, { on := 7, ground := Ground.guard }], guard := some (7, true) }) (v := ?d61_10xv9) rfl (by kernel_rfl) (by kernel_rfl) (by kernel_rfl) (fun _ _ _ h => h) (Or.inl ⟨by rfl, ?d61_10xy9⟩) (by assumption) ?d61_10xr9
      case d61_10xy9 => (intro w hSw; (try dsimp only at hSw); go_simp; try with_reducible rfl)
      (try simp only [Act.put])
      (try simp only [List.setIfInBounds_toArray])
      (try simp only [List.set_cons_succ])
      (try simp only [List.set_cons_zero])
      refine wpAnyH_take (i := 10) (oi := { dst := some 64, op := Op.move (Operand.tmp 63), type := 4, pos := "law.go:192", after := #[{ on := 9, ground := Ground.data }, { on := 7, ground := Ground.chain }, { on := 7, ground := Ground.guard }], guard := some (7, true) }) (v := ?d61_11xv10) rfl (by kernel_rfl) (by kernel_rfl) (by kernel_rfl) (fun _ _ _ h => h) (Or.inl ⟨by rfl, ?d61_11xy10⟩) (by assumption) ?d61_11xr10
      case d61_11xy10 => (intro w hSw; (try dsimp only at hSw); go_simp; try with_reducible rfl)
      (try simp only [Act.put])
      (try simp only [List.setIfInBounds_toArray])
      (try simp only [List.set_cons_succ])
      (try simp only [List.set_cons_zero])
      refine wpAnyH_take (i := 11) (oi := { dst := some 65, op := Op.load 49 (Operand.tmp 5), type := 49, pos := "law.go:192", after := #[{ on := 10, ground := Ground.guard }], guard := some (10, false) }) (v := ?d61_12xv11) rfl (by kernel_rfl) (by kernel_rfl) (by kernel_rfl) (fun _ _ _ h => h) (Or.inl ⟨by rfl, ?d61_12xy11⟩) (by assumption) ?d61_12xr11
      case d61_12xy11 => (intro w hSw; (try dsimp only at hSw); go_simp; try with_reducible rfl)
      (try simp only [Act.put])
      (try simp only [List.setIfInBounds_toArray])
      (try simp only [List.set_cons_succ])
      (try simp only [List.set_cons_zero])
      refine wpAnyH_take (i := 13) (oi := { dst := some 67, op := Op.load 66 (Operand.tmp 3), type := 66, pos := "law.go:192", after := #[{ on := 10, ground := Ground.guard }], guard := some (10, false) }) (v := ?d61_13xv13) rfl (by kernel_rfl) (by kernel_rfl) (by kernel_rfl) (fun _ _ _ h => h) (Or.inl ⟨by rfl, ?d61_13xy13⟩) (by assumption) ?d61_13xr13
      case d61_13xy13 => (intro w hSw; (try dsimp only at hSw); go_simp; try with_reducible rfl)
      (try simp only [Act.put])
      (try simp only [List.setIfInBounds_toArray])
      (try simp only [List.set_cons_succ])
      (try simp only [List.set_cons_zero])
      refine wpAnyH_ready (rs := [12]) (by kernel_rfl) (by simp) ?_
      refine AllReadyH.cons (o := { dst := some 66, op := Op.call { callee := Callee.value (Operand.func 27), args := #[Operand.tmp 65], argTypes := #[49] }, type := 66, pos := "law.go:192", after := #[{ on := 11, ground := Ground.data }, { on := 10, ground := Ground.chain }, { on := 10, ground := Ground.guard }], guard := some (10, false) }) rfl (fun K hK => ?_) AllReadyH.nil
      go_simp
      go_at_call 27
      refine (PU.out _).mono ?_
      rintro e v61 ⟨rfl, hb⟩
      replace B2 := Lib.hid (B2.out.below (hb))
      replace B3 := Lib.hid (B3.out.below (hb))
      replace HG := Lib.hid (HG.out.below (hb))
      replace X5 := Lib.hid (X5.out.below (hb))
      replace Z9 := Lib.hid (Z9.out.below (hb))
      replace BB := Lib.hid (BB.out.trans ((hb).mono BB.out.size))
      clear hb
      go_simp
      refine hK.out _ _ ?_ (fun hHeld => ?_)
      · exact ⟨(B2.out.cell 0), (B2.out.cell 1), (B2.out.cell 2), (B2.out.cell 3), (B2.out.cell 4), (B2.out.cell 5), (B3.out.cell 0), (B3.out.cell 1), (B3.out.cell 2), (B3.out.cell 3), (B3.out.cell 4), (B3.out.cell 5), (B3.out.cell 6), (B3.out.cell 7), (B3.out.cell 8), (X5.out.cell 0), (X5.out.cell 1), (X5.out.cell 2), (X5.out.cell 3), (X5.out.cell 4), (X5.out.cell 5), (Z9.out.cell 0), (Z9.out.cell 1), (Z9.out.cell 2), (Z9.out.cell 3), (Z9.out.cell 4), (Z9.out.cell 5)⟩
      clear hK K
      (try simp only [Act.put])
      (try simp only [List.setIfInBounds_toArray])
      (try simp only [List.set_cons_succ])
      (try simp only [List.set_cons_zero])
      refine wpAnyH_take (i := 14) (oi := { dst := some 68, op := Op.binOp BinOp.eql 66 (Operand.tmp 66) (Operand.tmp 67) 66, type := 4, pos := "law.go:192", after := #[{ on := 12, ground := Ground.data }, { on := 13, ground := Ground.data }, { on := 10, ground := Ground.guard }], guard := some (10, false) }) (v := ?d62_14xv14) rfl (by kernel_rfl) (by kernel_rfl) (by kernel_rfl) (fun _ _ _ h => h) (Or.inl ⟨by rfl, ?d62_14xy14⟩) (by assumption) ?d62_14xr14
      case d62_14xy14 => (intro w hSw; (try dsimp only at hSw); go_simp; try with_reducible rfl)
      (try simp only [Act.put])
      (try simp only [List.setIfInBounds_toArray])
      (try simp only [List.set_cons_succ])
      (try simp only [List.set_cons_zero])
      refine wpAnyH_take (i := 15) (oi := { dst := some 69, op := Op.pick (Operand.tmp 64) (Operand.const (Value.bool true)) (Operand.tmp 68), type := 4, pos := "law.go:192", after := #[{ on := 10, ground := Ground.data }, { on := 14, ground := Ground.data }, { on := 7, ground := Ground.guard }], guard := some (7, true) }) (v := ?d62_15xv15) rfl (by kernel_rfl) (by kernel_rfl) (by kernel_rfl) (fun _ _ _ h => h) (Or.inl ⟨by rfl, ?d62_15xy15⟩) (by assumption) ?d62_15xr15
      case d62_15xy15 => (intro w hSw; (try dsimp only at hSw); go_simp; try with_reducible rfl)
      (try simp only [Act.put])
      (try simp only [List.setIfInBounds_toArray])
      (try simp only [List.set_cons_succ])
      (try simp only [List.set_cons_zero])
      refine wpAnyH_take (i := 16) (oi := { dst := some 70, op := Op.pick (Operand.tmp 61) (Operand.tmp 69) (Operand.const (Value.bool false)), type := 4, pos := "law.go:192", after := #[{ on := 7, ground := Ground.data }, { on := 15, ground := Ground.data }], guard := none }) (v := ?d62_16xv16) rfl (by kernel_rfl) (by kernel_rfl) (by kernel_rfl) (fun _ _ _ h => h) (Or.inl ⟨by rfl, ?d62_16xy16⟩) (by assumption) ?d62_16xr16
      case d62_16xy16 => (intro w hSw; (try dsimp only at hSw); go_simp; try with_reducible rfl)
      (try simp only [Act.put])
      (try simp only [List.setIfInBounds_toArray])
      (try simp only [List.set_cons_succ])
      (try simp only [List.set_cons_zero])
      refine wpAnyH_take (i := 17) (oi := { dst := some 71, op := Op.move (Operand.tmp 70), type := 4, pos := "law.go:192", after := #[{ on := 16, ground := Ground.data }, { on := 12, ground := Ground.chain }], guard := none }) (v := ?d62_17xv17) rfl (by kernel_rfl) (by kernel_rfl) (by kernel_rfl) (fun _ _ _ h => h) (Or.inl ⟨by rfl, ?d62_17xy17⟩) (by assumption) ?d62_17xr17
      case d62_17xy17 => (intro w hSw; (try dsimp only at hSw); go_simp; try with_reducible rfl)
      (try simp only [Act.put])
      (try simp only [List.setIfInBounds_toArray])
      (try simp only [List.set_cons_succ])
      (try simp only [List.set_cons_zero])
      refine wpAnyH_ready (rs := [18]) (by kernel_rfl) (by simp) ?_
      refine AllReadyH.cons (o := { dst := some 72, op := Op.call { callee := Callee.value (Operand.func 11), args := #[], argTypes := #[] }, type := 4, pos := "law.go:192", after := #[{ on := 17, ground := Ground.chain }, { on := 17, ground := Ground.guard }], guard := some (17, true) }) rfl (fun K hK => ?_) AllReadyH.nil
      go_simp
      go_at_call 11
      refine (awake_any _ HG.out).mono ?_
      rintro e v62 ⟨rfl, hb⟩
      replace B2 := Lib.hid (B2.out.below (hb))
      replace B3 := Lib.hid (B3.out.below (hb))
      replace HG := Lib.hid (HG.out.below (hb))
      replace X5 := Lib.hid (X5.out.below (hb))
      replace Z9 := Lib.hid (Z9.out.below (hb))
      replace BB := Lib.hid (BB.out.trans ((hb).mono BB.out.size))
      clear hb
      go_simp
      refine hK.out _ _ ?_ (fun hHeld => ?_)
      · exact ⟨(B2.out.cell 0), (B2.out.cell 1), (B2.out.cell 2), (B2.out.cell 3), (B2.out.cell 4), (B2.out.cell 5), (B3.out.cell 0), (B3.out.cell 1), (B3.out.cell 2), (B3.out.cell 3), (B3.out.cell 4), (B3.out.cell 5), (B3.out.cell 6), (B3.out.cell 7), (B3.out.cell 8), (X5.out.cell 0), (X5.out.cell 1), (X5.out.cell 2), (X5.out.cell 3), (X5.out.cell 4), (X5.out.cell 5), (Z9.out.cell 0), (Z9.out.cell 1), (Z9.out.cell 2), (Z9.out.cell 3), (Z9.out.cell 4), (Z9.out.cell 5)⟩
      clear hK K
      (try simp only [Act.put])
      (try simp only [List.setIfInBounds_toArray])
      (try simp only [List.set_cons_succ])
      (try simp only [List.set_cons_zero])
      refine wpAnyH_take (i := 19) (oi := { dst := some 73, op := Op.pick (Operand.tmp 71) (Operand.tmp 72) (Operand.const (Value.bool false)), type := 4, pos := "law.go:192", after := #[{ on := 17, ground := Ground.data }, { on := 18, ground := Ground.data }], guard := none }) (v := ?d63_18xv19) rfl (by kernel_rfl) (by kernel_rfl) (by kernel_rfl) (fun _ _ _ h => h) (Or.inl ⟨by rfl, ?d63_18xy19⟩) (by assumption) ?d63_18xr19
      case d63_18xy19 => (intro w hSw; (try dsimp only at hSw); go_simp; try with_reducible rfl)
      (try simp only [Act.put])
      (try simp only [List.setIfInBounds_toArray])
      (try simp only [List.set_cons_succ])
      (try simp only [List.set_cons_zero])
      refine wpAnyH_ready (rs := [20]) (by kernel_rfl) (by simp) ?_
      refine AllReadyH.cons (o := { dst := some 4, op := Op.assign (Operand.tmp 73), type := 4, pos := "law.go:192", after := #[{ on := 19, ground := Ground.data }, { on := 18, ground := Ground.chain }, { on := 0, ground := Ground.phase }, { on := 1, ground := Ground.phase }, { on := 2, ground := Ground.phase }, { on := 3, ground := Ground.phase }, { on := 4, ground := Ground.phase }, { on := 5, ground := Ground.phase }, { on := 6, ground := Ground.phase }, { on := 7, ground := Ground.phase }, { on := 8, ground := Ground.phase }, { on := 9, ground := Ground.phase }, { on := 10, ground := Ground.phase }, { on := 11, ground := Ground.phase }, { on := 12, ground := Ground.phase }, { on := 13, ground := Ground.phase }, { on := 14, ground := Ground.phase }, { on := 15, ground := Ground.phase }, { on := 16, ground := Ground.phase }, { on := 17, ground := Ground.phase }, { on := 18, ground := Ground.phase }, { on := 19, ground := Ground.phase }], guard := none }) rfl (fun K hK => ?_) AllReadyH.nil
      go_simp
      refine hK.out _ _ ?_ (fun hHeld => ?_)
      · exact ⟨(B2.out.cell 0), (B2.out.cell 1), (B2.out.cell 2), (B2.out.cell 3), (B2.out.cell 4), (B2.out.cell 5), (B3.out.cell 0), (B3.out.cell 1), (B3.out.cell 2), (B3.out.cell 3), (B3.out.cell 4), (B3.out.cell 5), (B3.out.cell 6), (B3.out.cell 7), (B3.out.cell 8), (X5.out.cell 0), (X5.out.cell 1), (X5.out.cell 2), (X5.out.cell 3), (X5.out.cell 4), (X5.out.cell 5), (Z9.out.cell 0), (Z9.out.cell 1), (Z9.out.cell 2), (Z9.out.cell 3), (Z9.out.cell 4), (Z9.out.cell 5)⟩
      clear hK K
      (try simp only [Act.put])
      (try simp only [List.setIfInBounds_toArray])
      (try simp only [List.set_cons_succ])
      (try simp only [List.set_cons_zero])
      refine wpAnyH_done (by kernel_rfl) ?_ _
      go_wp2_with fail
      go_ret
      exact ⟨rfl, BB.out⟩
    | false =>
      replace B2 := Lib.hid (B2.out.below ((Below.refl _ _).drew))
      replace B3 := Lib.hid (B3.out.below ((Below.refl _ _).drew))
      replace HG := Lib.hid (HG.out.below ((Below.refl _ _).drew))
      replace X5 := Lib.hid (X5.out.below ((Below.refl _ _).drew))
      replace Z9 := Lib.hid (Z9.out.below ((Below.refl _ _).drew))
      replace BB := Lib.hid (BB.out.trans (((Below.refl _ _).drew).mono BB.out.size))
      refine wp_region_held_drew (S := fun w' => w'.cell? ⟨q, 0, none⟩ = some (.int .i64 a) ∧ w'.cell? ⟨q, 1, none⟩ = some (.int .i64 v) ∧ w'.cell? ⟨q, 2, none⟩ = some (.int .u32 n) ∧ w'.cell? ⟨q, 3, none⟩ = some (.int .u32 0) ∧ w'.cell? ⟨q, 4, none⟩ = some (.int .i64 z) ∧ w'.cell? ⟨q, 5, none⟩ = some (.bool b) ∧ w'.cell? ⟨q + 1, 0, none⟩ = some (.int .i64 x0) ∧ w'.cell? ⟨q + 1, 1, none⟩ = some (.int .u32 x1) ∧ w'.cell? ⟨q + 1, 2, none⟩ = some (.int .u32 x2) ∧ w'.cell? ⟨q + 1, 3, none⟩ = some (.int .i64 y0) ∧ w'.cell? ⟨q + 1, 4, none⟩ = some (.int .u32 y1) ∧ w'.cell? ⟨q + 1, 5, none⟩ = some (.int .u32 y2) ∧ w'.cell? ⟨q + 1, 6, none⟩ = some (.int .i64 z0) ∧ w'.cell? ⟨q + 1, 7, none⟩ = some (.int .u32 z1) ∧ w'.cell? ⟨q + 1, 8, none⟩ = some (.int .u32 z2) ∧ w'.cell? ⟨q5, 0, none⟩ = some (.int .i64 u0) ∧ w'.cell? ⟨q5, 1, none⟩ = some (.int .i64 u1) ∧ w'.cell? ⟨q5, 2, none⟩ = some (.int .u32 u2) ∧ w'.cell? ⟨q5, 3, none⟩ = some (.int .u32 u3) ∧ w'.cell? ⟨q5, 4, none⟩ = some (.int .i64 u4) ∧ w'.cell? ⟨q5, 5, none⟩ = some (.bool u5) ∧ w'.cell? ⟨q9, 0, none⟩ = some (.int .i64 a) ∧ w'.cell? ⟨q9, 1, none⟩ = some (.int .i64 v) ∧ w'.cell? ⟨q9, 2, none⟩ = some (.int .u32 n) ∧ w'.cell? ⟨q9, 3, none⟩ = some (.int .u32 0) ∧ w'.cell? ⟨q9, 4, none⟩ = some (.int .i64 z) ∧ w'.cell? ⟨q9, 5, none⟩ = some (.bool b)) (by kernel_rfl) ⟨(B2.out.cell 0), (B2.out.cell 1), (B2.out.cell 2), (B2.out.cell 3), (B2.out.cell 4), (B2.out.cell 5), (B3.out.cell 0), (B3.out.cell 1), (B3.out.cell 2), (B3.out.cell 3), (B3.out.cell 4), (B3.out.cell 5), (B3.out.cell 6), (B3.out.cell 7), (B3.out.cell 8), (X5.out.cell 0), (X5.out.cell 1), (X5.out.cell 2), (X5.out.cell 3), (X5.out.cell 4), (X5.out.cell 5), (Z9.out.cell 0), (Z9.out.cell 1), (Z9.out.cell 2), (Z9.out.cell 3), (Z9.out.cell 4), (Z9.out.cell 5)⟩ (fun hHeld => ?_)
      generalize World.drew W5 = V90 at *
      refine wpAnyH_take (i := 0) (oi := { dst := some 54, op := Op.move (Operand.tmp 10), type := 4, pos := "law.go:192", after := #[], guard := none }) (v := ?d91_1xv0) rfl (by kernel_rfl) (by kernel_rfl) (by kernel_rfl) (fun _ _ _ h => h) (Or.inl ⟨by rfl, ?d91_1xy0⟩) (by assumption) ?d91_1xr0
      case d91_1xy0 => (intro w hSw; (try dsimp only at hSw); go_simp; try with_reducible rfl)
      (try simp only [Act.put])
      (try simp only [List.setIfInBounds_toArray])
      (try simp only [List.set_cons_succ])
      (try simp only [List.set_cons_zero])
      refine wpAnyH_take (i := 1) (oi := { dst := some 55, op := Op.unOp UnOp.not 4 (Operand.tmp 54), type := 4, pos := "law.go:192", after := #[{ on := 0, ground := Ground.data }], guard := none }) (v := ?d91_2xv1) rfl (by kernel_rfl) (by kernel_rfl) (by kernel_rfl) (fun _ _ _ h => h) (Or.inl ⟨by rfl, ?d91_2xy1⟩) (by assumption) ?d91_2xr1
      case d91_2xy1 => (intro w hSw; (try dsimp only at hSw); go_simp; try with_reducible rfl)
      (try simp only [Act.put])
      (try simp only [List.setIfInBounds_toArray])
      (try simp only [List.set_cons_succ])
      (try simp only [List.set_cons_zero])
      refine wpAnyH_take (i := 2) (oi := { dst := some 56, op := Op.move (Operand.tmp 55), type := 4, pos := "law.go:192", after := #[{ on := 1, ground := Ground.data }], guard := none }) (v := ?d91_3xv2) rfl (by kernel_rfl) (by kernel_rfl) (by kernel_rfl) (fun _ _ _ h => h) (Or.inl ⟨by rfl, ?d91_3xy2⟩) (by assumption) ?d91_3xr2
      case d91_3xy2 => (intro w hSw; (try dsimp only at hSw); go_simp; try with_reducible rfl)
      (try simp only [Act.put])
      (try simp only [List.setIfInBounds_toArray])
      (try simp only [List.set_cons_succ])
      (try simp only [List.set_cons_zero])
      refine wpAnyH_take (i := 3) (oi := { dst := some 57, op := Op.load 49 (Operand.tmp 9), type := 49, pos := "law.go:192", after := #[{ on := 2, ground := Ground.guard }], guard := some (2, false) }) (v := ?d91_4xv3) rfl (by kernel_rfl) (by kernel_rfl) (by kernel_rfl) (fun _ _ _ h => h) (Or.inl ⟨by rfl, ?d91_4xy3⟩) (by assumption) ?d91_4xr3
      case d91_4xy3 => (intro w hSw; (try dsimp only at hSw); go_simp; try with_reducible rfl)
      (try simp only [Act.put])
      (try simp only [List.setIfInBounds_toArray])
      (try simp only [List.set_cons_succ])
      (try simp only [List.set_cons_zero])
      refine wpAnyH_take (i := 4) (oi := { dst := some 58, op := Op.load 49 (Operand.tmp 2), type := 49, pos := "law.go:192", after := #[{ on := 2, ground := Ground.guard }], guard := some (2, false) }) (v := ?d91_5xv4) rfl (by kernel_rfl) (by kernel_rfl) (by kernel_rfl) (fun _ _ _ h => h) (Or.inl ⟨by rfl, ?d91_5xy4⟩) (by assumption) ?d91_5xr4
      case d91_5xy4 => (intro w hSw; (try dsimp only at hSw); go_simp; try with_reducible rfl)
      (try simp only [Act.put])
      (try simp only [List.setIfInBounds_toArray])
      (try simp only [List.set_cons_succ])
      (try simp only [List.set_cons_zero])
      refine wpAnyH_take (i := 5) (oi := { dst := some 59, op := Op.binOp BinOp.eql 49 (Operand.tmp 57) (Operand.tmp 58) 49, type := 4, pos := "law.go:192", after := #[{ on := 3, ground := Ground.data }, { on := 4, ground := Ground.data }, { on := 2, ground := Ground.guard }], guard := some (2, false) }) (v := ?d91_6xv5) rfl (by kernel_rfl) (by kernel_rfl) (by kernel_rfl) (fun _ _ _ h => h) (Or.inl ⟨by rfl, ?d91_6xy5⟩) (by assumption) ?d91_6xr5
      case d91_6xy5 => (intro w hSw; (try dsimp only at hSw); go_simp; try with_reducible rfl)
      (try simp only [Act.put])
      (try simp only [List.setIfInBounds_toArray])
      (try simp only [List.set_cons_succ])
      (try simp only [List.set_cons_zero])
      refine wpAnyH_take (i := 6) (oi := { dst := some 60, op := Op.pick (Operand.tmp 56) (Operand.const (Value.bool true)) (Operand.tmp 59), type := 4, pos := "law.go:192", after := #[{ on := 2, ground := Ground.data }, { on := 5, ground := Ground.data }], guard := none }) (v := ?d91_7xv6) rfl (by kernel_rfl) (by kernel_rfl) (by kernel_rfl) (fun _ _ _ h => h) (Or.inl ⟨by rfl, ?d91_7xy6⟩) (by assumption) ?d91_7xr6
      case d91_7xy6 => (intro w hSw; (try dsimp only at hSw); go_simp; try with_reducible rfl)
      (try simp only [Act.put])
      (try simp only [List.setIfInBounds_toArray])
      (try simp only [List.set_cons_succ])
      (try simp only [List.set_cons_zero])
      refine wpAnyH_take (i := 7) (oi := { dst := some 61, op := Op.move (Operand.tmp 60), type := 4, pos := "law.go:192", after := #[{ on := 6, ground := Ground.data }, { on := 2, ground := Ground.chain }], guard := none }) (v := ?d91_8xv7) rfl (by kernel_rfl) (by kernel_rfl) (by kernel_rfl) (fun _ _ _ h => h) (Or.inl ⟨by rfl, ?d91_8xy7⟩) (by assumption) ?d91_8xr7
      case d91_8xy7 => (intro w hSw; (try dsimp only at hSw); go_simp; try with_reducible rfl)
      (try simp only [Act.put])
      (try simp only [List.setIfInBounds_toArray])
      (try simp only [List.set_cons_succ])
      (try simp only [List.set_cons_zero])
      refine wpAnyH_take (i := 8) (oi := { dst := some 62, op := Op.move (Operand.tmp 6), type := 4, pos := "law.go:192", after := #[{ on := 7, ground := Ground.guard }], guard := some (7, true) }) (v := ?d91_9xv8) rfl (by kernel_rfl) (by kernel_rfl) (by kernel_rfl) (fun _ _ _ h => h) (Or.inl ⟨by rfl, ?d91_9xy8⟩) (by assumption) ?d91_9xr8
      case d91_9xy8 => (intro w hSw; (try dsimp only at hSw); go_simp; try with_reducible rfl)
      (try simp only [Act.put])
      (try simp only [List.setIfInBounds_toArray])
      (try simp only [List.set_cons_succ])
      (try simp only [List.set_cons_zero])
      refine wpAnyH_take (i := 9) (oi := { dst := some 63, op := Op.unOp UnOp.not 4 (Operand.tmp 62), type := 4, pos := "law.go:192", after := #[{ on := 8, ground := Ground.data }, { on := 7, ground := Ground.guard }], guard := some (7, true) }) (v := ?d91_10xv9) rfl (by kernel_rfl) (by kernel_rfl) (by kernel_rfl) (fun _ _ _ h => h) (Or.inl ⟨by rfl, ?d91_10xy9⟩) (by assumption) ?d91_10xr9
      case d91_10xy9 => (intro w hSw; (try dsimp only at hSw); go_simp; try with_reducible rfl)
      (try simp only [Act.put])
      (try simp only [List.setIfInBounds_toArray])
      (try simp only [List.set_cons_succ])
      (try simp only [List.set_cons_zero])
      refine wpAnyH_take (i := 10) (oi := { dst := some 64, op := Op.move (Operand.tmp 63), type := 4, pos := "law.go:192", after := #[{ on := 9, ground := Ground.data }, { on := 7, ground := Ground.chain }, { on := 7, ground := Ground.guard }], guard := some (7, true) }) (v := ?d91_11xv10) rfl (by kernel_rfl) (by kernel_rfl) (by kernel_rfl) (fun _ _ _ h => h) (Or.inl ⟨by rfl, ?d91_11xy10⟩) (by assumption) ?d91_11xr10
      case d91_11xy10 => (intro w hSw; (try dsimp only at hSw); go_simp; try with_reducible rfl)
      (try simp only [Act.put])
      (try simp only [List.setIfInBounds_toArray])
      (try simp only [List.set_cons_succ])
      (try simp only [List.set_cons_zero])
      refine wpAnyH_take (i := 11) (oi := { dst := some 65, op := Op.load 49 (Operand.tmp 5), type := 49, pos := "law.go:192", after := #[{ on := 10, ground := Ground.guard }], guard := some (10, false) }) (v := undef) rfl (by kernel_rfl) (by kernel_rfl) (by kernel_rfl) (fun _ _ _ h => h) (Or.inr ⟨by kernel_rfl, rfl⟩) (by assumption) ?d91_12xr11
      (try simp only [Act.put])
      (try simp only [List.setIfInBounds_toArray])
      (try simp only [List.set_cons_succ])
      (try simp only [List.set_cons_zero])
      refine wpAnyH_take (i := 12) (oi := { dst := some 66, op := Op.call { callee := Callee.value (Operand.func 27), args := #[Operand.tmp 65], argTypes := #[49] }, type := 66, pos := "law.go:192", after := #[{ on := 11, ground := Ground.data }, { on := 10, ground := Ground.chain }, { on := 10, ground := Ground.guard }], guard := some (10, false) }) (v := undef) rfl (by kernel_rfl) (by kernel_rfl) (by kernel_rfl) (fun _ _ _ h => h) (Or.inr ⟨by kernel_rfl, rfl⟩) (by assumption) ?d91_13xr12
      (try simp only [Act.put])
      (try simp only [List.setIfInBounds_toArray])
      (try simp only [List.set_cons_succ])
      (try simp only [List.set_cons_zero])
      refine wpAnyH_take (i := 13) (oi := { dst := some 67, op := Op.load 66 (Operand.tmp 3), type := 66, pos := "law.go:192", after := #[{ on := 10, ground := Ground.guard }], guard := some (10, false) }) (v := undef) rfl (by kernel_rfl) (by kernel_rfl) (by kernel_rfl) (fun _ _ _ h => h) (Or.inr ⟨by kernel_rfl, rfl⟩) (by assumption) ?d91_14xr13
      (try simp only [Act.put])
      (try simp only [List.setIfInBounds_toArray])
      (try simp only [List.set_cons_succ])
      (try simp only [List.set_cons_zero])
      refine wpAnyH_take (i := 14) (oi := { dst := some 68, op := Op.binOp BinOp.eql 66 (Operand.tmp 66) (Operand.tmp 67) 66, type := 4, pos := "law.go:192", after := #[{ on := 12, ground := Ground.data }, { on := 13, ground := Ground.data }, { on := 10, ground := Ground.guard }], guard := some (10, false) }) (v := undef) rfl (by kernel_rfl) (by kernel_rfl) (by kernel_rfl) (fun _ _ _ h => h) (Or.inr ⟨by kernel_rfl, rfl⟩) (by assumption) ?d91_15xr14
      (try simp only [Act.put])
      (try simp only [List.setIfInBounds_toArray])
      (try simp only [List.set_cons_succ])
      (try simp only [List.set_cons_zero])
      refine wpAnyH_take (i := 15) (oi := { dst := some 69, op := Op.pick (Operand.tmp 64) (Operand.const (Value.bool true)) (Operand.tmp 68), type := 4, pos := "law.go:192", after := #[{ on := 10, ground := Ground.data }, { on := 14, ground := Ground.data }, { on := 7, ground := Ground.guard }], guard := some (7, true) }) (v := ?d91_16xv15) rfl (by kernel_rfl) (by kernel_rfl) (by kernel_rfl) (fun _ _ _ h => h) (Or.inl ⟨by rfl, ?d91_16xy15⟩) (by assumption) ?d91_16xr15
      case d91_16xy15 => (intro w hSw; (try dsimp only at hSw); go_simp; try with_reducible rfl)
      (try simp only [Act.put])
      (try simp only [List.setIfInBounds_toArray])
      (try simp only [List.set_cons_succ])
      (try simp only [List.set_cons_zero])
      refine wpAnyH_take (i := 16) (oi := { dst := some 70, op := Op.pick (Operand.tmp 61) (Operand.tmp 69) (Operand.const (Value.bool false)), type := 4, pos := "law.go:192", after := #[{ on := 7, ground := Ground.data }, { on := 15, ground := Ground.data }], guard := none }) (v := ?d91_17xv16) rfl (by kernel_rfl) (by kernel_rfl) (by kernel_rfl) (fun _ _ _ h => h) (Or.inl ⟨by rfl, ?d91_17xy16⟩) (by assumption) ?d91_17xr16
      case d91_17xy16 => (intro w hSw; (try dsimp only at hSw); go_simp; try with_reducible rfl)
      (try simp only [Act.put])
      (try simp only [List.setIfInBounds_toArray])
      (try simp only [List.set_cons_succ])
      (try simp only [List.set_cons_zero])
      refine wpAnyH_take (i := 17) (oi := { dst := some 71, op := Op.move (Operand.tmp 70), type := 4, pos := "law.go:192", after := #[{ on := 16, ground := Ground.data }, { on := 12, ground := Ground.chain }], guard := none }) (v := ?d91_18xv17) rfl (by kernel_rfl) (by kernel_rfl) (by kernel_rfl) (fun _ _ _ h => h) (Or.inl ⟨by rfl, ?d91_18xy17⟩) (by assumption) ?d91_18xr17
      case d91_18xy17 => (intro w hSw; (try dsimp only at hSw); go_simp; try with_reducible rfl)
      (try simp only [Act.put])
      (try simp only [List.setIfInBounds_toArray])
      (try simp only [List.set_cons_succ])
      (try simp only [List.set_cons_zero])
      refine wpAnyH_ready (rs := [18]) (by kernel_rfl) (by simp) ?_
      refine AllReadyH.cons (o := { dst := some 72, op := Op.call { callee := Callee.value (Operand.func 11), args := #[], argTypes := #[] }, type := 4, pos := "law.go:192", after := #[{ on := 17, ground := Ground.chain }, { on := 17, ground := Ground.guard }], guard := some (17, true) }) rfl (fun K hK => ?_) AllReadyH.nil
      go_simp
      go_at_call 11
      refine (awake_any _ HG.out).mono ?_
      rintro e v91 ⟨rfl, hb⟩
      replace B2 := Lib.hid (B2.out.below (hb))
      replace B3 := Lib.hid (B3.out.below (hb))
      replace HG := Lib.hid (HG.out.below (hb))
      replace X5 := Lib.hid (X5.out.below (hb))
      replace Z9 := Lib.hid (Z9.out.below (hb))
      replace BB := Lib.hid (BB.out.trans ((hb).mono BB.out.size))
      clear hb
      go_simp
      refine hK.out _ _ ?_ (fun hHeld => ?_)
      · exact ⟨(B2.out.cell 0), (B2.out.cell 1), (B2.out.cell 2), (B2.out.cell 3), (B2.out.cell 4), (B2.out.cell 5), (B3.out.cell 0), (B3.out.cell 1), (B3.out.cell 2), (B3.out.cell 3), (B3.out.cell 4), (B3.out.cell 5), (B3.out.cell 6), (B3.out.cell 7), (B3.out.cell 8), (X5.out.cell 0), (X5.out.cell 1), (X5.out.cell 2), (X5.out.cell 3), (X5.out.cell 4), (X5.out.cell 5), (Z9.out.cell 0), (Z9.out.cell 1), (Z9.out.cell 2), (Z9.out.cell 3), (Z9.out.cell 4), (Z9.out.cell 5)⟩
      clear hK K
      (try simp only [Act.put])
      (try simp only [List.setIfInBounds_toArray])
      (try simp only [List.set_cons_succ])
      (try simp only [List.set_cons_zero])
      refine wpAnyH_take (i := 19) (oi := { dst := some 73, op := Op.pick (Operand.tmp 71) (Operand.tmp 72) (Operand.const (Value.bool false)), type := 4, pos := "law.go:192", after := #[{ on := 17, ground := Ground.data }, { on := 18, ground := Ground.data }], guard := none }) (v := ?d92_19xv19) rfl (by kernel_rfl) (by kernel_rfl) (by kernel_rfl) (fun _ _ _ h => h) (Or.inl ⟨by rfl, ?d92_19xy19⟩) (by assumption) ?d92_19xr19
      case d92_19xy19 => (intro w hSw; (try dsimp only at hSw); go_simp; try with_reducible rfl)
      (try simp only [Act.put])
      (try simp only [List.setIfInBounds_toArray])
      (try simp only [List.set_cons_succ])
      (try simp only [List.set_cons_zero])
      refine wpAnyH_ready (rs := [20]) (by kernel_rfl) (by simp) ?_
      refine AllReadyH.cons (o := { dst := some 4, op := Op.assign (Operand.tmp 73), type := 4, pos := "law.go:192", after := #[{ on := 19, ground := Ground.data }, { on := 18, ground := Ground.chain }, { on := 0, ground := Ground.phase }, { on := 1, ground := Ground.phase }, { on := 2, ground := Ground.phase }, { on := 3, ground := Ground.phase }, { on := 4, ground := Ground.phase }, { on := 5, ground := Ground.phase }, { on := 6, ground := Ground.phase }, { on := 7, ground := Ground.phase }, { on := 8, ground := Ground.phase }, { on := 9, ground := Ground.phase }, { on := 10, ground := Ground.phase }, { on := 11, ground := Ground.phase }, { on := 12, ground := Ground.phase }, { on := 13, ground := Ground.phase }, { on := 14, ground := Ground.phase }, { on := 15, ground := Ground.phase }, { on := 16, ground := Ground.phase }, { on := 17, ground := Ground.phase }, { on := 18, ground := Ground.phase }, { on := 19, ground := Ground.phase }], guard := none }) rfl (fun K hK => ?_) AllReadyH.nil
      go_simp
      refine hK.out _ _ ?_ (fun hHeld => ?_)
      · exact ⟨(B2.out.cell 0), (B2.out.cell 1), (B2.out.cell 2), (B2.out.cell 3), (B2.out.cell 4), (B2.out.cell 5), (B3.out.cell 0), (B3.out.cell 1), (B3.out.cell 2), (B3.out.cell 3), (B3.out.cell 4), (B3.out.cell 5), (B3.out.cell 6), (B3.out.cell 7), (B3.out.cell 8), (X5.out.cell 0), (X5.out.cell 1), (X5.out.cell 2), (X5.out.cell 3), (X5.out.cell 4), (X5.out.cell 5), (Z9.out.cell 0), (Z9.out.cell 1), (Z9.out.cell 2), (Z9.out.cell 3), (Z9.out.cell 4), (Z9.out.cell 5)⟩
      clear hK K
      (try simp only [Act.put])
      (try simp only [List.setIfInBounds_toArray])
      (try simp only [List.set_cons_succ])
      (try simp only [List.set_cons_zero])
      refine wpAnyH_done (by kernel_rfl) ?_ _
      go_wp2_with fail
      go_ret
      exact ⟨rfl, BB.out⟩
  · rw [decide_eq_false hr, if_neg (by decide)]
    simp only [zE]
    go_upto_region 6 with fail
    have L9 := Lib.hid B2.out.lt
    have Z9 := Lib.hid (Box.new w4 #[.int .i64 0, .int .i64 0, .int .u32 0, .int .u32 0, .int .i64 0, .bool false] 49 rfl)
    have B1 := Lib.hid (below1 w4 (.cells #[.int .i64 0, .int .i64 0, .int .u32 0, .int .u32 0, .int .i64 0, .bool false] 49))
    replace B2 := Lib.hid (B2.out.below B1.out)
    replace B3 := Lib.hid (B3.out.below B1.out)
    replace HG := Lib.hid (HG.out.below B1.out)
    replace X5 := Lib.hid (X5.out.below B1.out)
    replace BB := Lib.hid (BB.out.trans (B1.out.mono BB.out.size))
    clear B1
    by_cases hr0 : 0 ≤ a
    · have hr1 : ¬ a < 4096 := fun h => hr ⟨hr0, h⟩
      clear hr
      generalize w4.alloc (.cells #[.int .i64 0, .int .i64 0, .int .u32 0, .int .u32 0, .int .i64 0, .bool false] 49) = W4 at *
      generalize w4.heap.size = q9 at *
      have k0 := B2.out.cell 0
      have k1 := B2.out.cell 1
      have k2 := B2.out.cell 2
      have k3 := B2.out.cell 3
      have k4 := B2.out.cell 4
      have k5 := B2.out.cell 5
      simp at k0 k1 k2 k3 k4 k5
      have f3 := B2.out.free 3
      have l0 := B2.out.lt
      go_upto_region 9 with fail
      clear k0 k1 k2 k3 k4 k5 f3 l0
      replace B2 : Hid (Box (W4.setCell ⟨q, 3, none⟩ (.int .u32 0)) q #[.int .i64 a, .int .i64 v, .int .u32 n, .int .u32 0, .int .i64 z, .bool b] 49) := Lib.hid (B2.out.set 3 _)
      replace B3 : Hid (Box (W4.setCell ⟨q, 3, none⟩ (.int .u32 0)) (q + 1) #[.int .i64 x0, .int .u32 x1, .int .u32 x2, .int .i64 y0, .int .u32 y1, .int .u32 y2, .int .i64 z0, .int .u32 z1, .int .u32 z2] 66) := Lib.hid (B3.out.other (by omega) 3 _)
      replace X5 : Hid (Box (W4.setCell ⟨q, 3, none⟩ (.int .u32 0)) q5 #[.int .i64 u0, .int .i64 u1, .int .u32 u2, .int .u32 u3, .int .i64 u4, .bool u5] 49) := Lib.hid (X5.out.other (by have := L5.out; omega) 3 _)
      replace Z9 : Hid (Box (W4.setCell ⟨q, 3, none⟩ (.int .u32 0)) q9 #[.int .i64 0, .int .i64 0, .int .u32 0, .int .u32 0, .int .i64 0, .bool false] 49) := Lib.hid (Z9.out.other (by have := L9.out; omega) 3 _)
      replace BB : Hid (Below w.heap.size w (W4.setCell ⟨q, 3, none⟩ (.int .u32 0))) := Lib.hid (BB.out.setCell (show w.heap.size ≤ q from Nat.le_of_eq HQ.out) (.int .u32 0))
      replace HG := Lib.hid (HG0.out.below BB.out)
      generalize W4.setCell ⟨q, 3, none⟩ (.int .u32 0) = W5 at *
      cases ok with
      | true =>
        obtain ⟨h1, h2, h3⟩ := PE.out rfl
        rw [h1, h2, h3] at PU
        simp only at PU
        replace B2 := Lib.hid (B2.out.below ((Below.refl _ _).drew))
        replace B3 := Lib.hid (B3.out.below ((Below.refl _ _).drew))
        replace HG := Lib.hid (HG.out.below ((Below.refl _ _).drew))
        replace X5 := Lib.hid (X5.out.below ((Below.refl _ _).drew))
        replace Z9 := Lib.hid (Z9.out.below ((Below.refl _ _).drew))
        replace BB := Lib.hid (BB.out.trans (((Below.refl _ _).drew).mono BB.out.size))
        refine wp_region_held_drew (S := fun w' => w'.cell? ⟨q, 0, none⟩ = some (.int .i64 a) ∧ w'.cell? ⟨q, 1, none⟩ = some (.int .i64 v) ∧ w'.cell? ⟨q, 2, none⟩ = some (.int .u32 n) ∧ w'.cell? ⟨q, 3, none⟩ = some (.int .u32 0) ∧ w'.cell? ⟨q, 4, none⟩ = some (.int .i64 z) ∧ w'.cell? ⟨q, 5, none⟩ = some (.bool b) ∧ w'.cell? ⟨q + 1, 0, none⟩ = some (.int .i64 x0) ∧ w'.cell? ⟨q + 1, 1, none⟩ = some (.int .u32 x1) ∧ w'.cell? ⟨q + 1, 2, none⟩ = some (.int .u32 x2) ∧ w'.cell? ⟨q + 1, 3, none⟩ = some (.int .i64 y0) ∧ w'.cell? ⟨q + 1, 4, none⟩ = some (.int .u32 y1) ∧ w'.cell? ⟨q + 1, 5, none⟩ = some (.int .u32 y2) ∧ w'.cell? ⟨q + 1, 6, none⟩ = some (.int .i64 z0) ∧ w'.cell? ⟨q + 1, 7, none⟩ = some (.int .u32 z1) ∧ w'.cell? ⟨q + 1, 8, none⟩ = some (.int .u32 z2) ∧ w'.cell? ⟨q5, 0, none⟩ = some (.int .i64 u0) ∧ w'.cell? ⟨q5, 1, none⟩ = some (.int .i64 u1) ∧ w'.cell? ⟨q5, 2, none⟩ = some (.int .u32 u2) ∧ w'.cell? ⟨q5, 3, none⟩ = some (.int .u32 u3) ∧ w'.cell? ⟨q5, 4, none⟩ = some (.int .i64 u4) ∧ w'.cell? ⟨q5, 5, none⟩ = some (.bool u5) ∧ w'.cell? ⟨q9, 0, none⟩ = some (.int .i64 0) ∧ w'.cell? ⟨q9, 1, none⟩ = some (.int .i64 0) ∧ w'.cell? ⟨q9, 2, none⟩ = some (.int .u32 0) ∧ w'.cell? ⟨q9, 3, none⟩ = some (.int .u32 0) ∧ w'.cell? ⟨q9, 4, none⟩ = some (.int .i64 0) ∧ w'.cell? ⟨q9, 5, none⟩ = some (.bool false)) (by kernel_rfl) ⟨(B2.out.cell 0), (B2.out.cell 1), (B2.out.cell 2), (B2.out.cell 3), (B2.out.cell 4), (B2.out.cell 5), (B3.out.cell 0), (B3.out.cell 1), (B3.out.cell 2), (B3.out.cell 3), (B3.out.cell 4), (B3.out.cell 5), (B3.out.cell 6), (B3.out.cell 7), (B3.out.cell 8), (X5.out.cell 0), (X5.out.cell 1), (X5.out.cell 2), (X5.out.cell 3), (X5.out.cell 4), (X5.out.cell 5), (Z9.out.cell 0), (Z9.out.cell 1), (Z9.out.cell 2), (Z9.out.cell 3), (Z9.out.cell 4), (Z9.out.cell 5)⟩ (fun hHeld => ?_)
        generalize World.drew W5 = V120 at *
        refine wpAnyH_take (i := 0) (oi := { dst := some 54, op := Op.move (Operand.tmp 10), type := 4, pos := "law.go:192", after := #[], guard := none }) (v := ?d121_1xv0) rfl (by kernel_rfl) (by kernel_rfl) (by kernel_rfl) (fun _ _ _ h => h) (Or.inl ⟨by rfl, ?d121_1xy0⟩) (by assumption) ?d121_1xr0
        case d121_1xy0 => (intro w hSw; (try dsimp only at hSw); go_simp; try with_reducible rfl)
        (try simp only [Act.put])
        (try simp only [List.setIfInBounds_toArray])
        (try simp only [List.set_cons_succ])
        (try simp only [List.set_cons_zero])
        refine wpAnyH_take (i := 1) (oi := { dst := some 55, op := Op.unOp UnOp.not 4 (Operand.tmp 54), type := 4, pos := "law.go:192", after := #[{ on := 0, ground := Ground.data }], guard := none }) (v := ?d121_2xv1) rfl (by kernel_rfl) (by kernel_rfl) (by kernel_rfl) (fun _ _ _ h => h) (Or.inl ⟨by rfl, ?d121_2xy1⟩) (by assumption) ?d121_2xr1
        case d121_2xy1 => (intro w hSw; (try dsimp only at hSw); go_simp; try with_reducible rfl)
        (try simp only [Act.put])
        (try simp only [List.setIfInBounds_toArray])
        (try simp only [List.set_cons_succ])
        (try simp only [List.set_cons_zero])
        refine wpAnyH_take (i := 2) (oi := { dst := some 56, op := Op.move (Operand.tmp 55), type := 4, pos := "law.go:192", after := #[{ on := 1, ground := Ground.data }], guard := none }) (v := ?d121_3xv2) rfl (by kernel_rfl) (by kernel_rfl) (by kernel_rfl) (fun _ _ _ h => h) (Or.inl ⟨by rfl, ?d121_3xy2⟩) (by assumption) ?d121_3xr2
        case d121_3xy2 => (intro w hSw; (try dsimp only at hSw); go_simp; try with_reducible rfl)
        (try simp only [Act.put])
        (try simp only [List.setIfInBounds_toArray])
        (try simp only [List.set_cons_succ])
        (try simp only [List.set_cons_zero])
        refine wpAnyH_take (i := 3) (oi := { dst := some 57, op := Op.load 49 (Operand.tmp 9), type := 49, pos := "law.go:192", after := #[{ on := 2, ground := Ground.guard }], guard := some (2, false) }) (v := undef) rfl (by kernel_rfl) (by kernel_rfl) (by kernel_rfl) (fun _ _ _ h => h) (Or.inr ⟨by kernel_rfl, rfl⟩) (by assumption) ?d121_4xr3
        (try simp only [Act.put])
        (try simp only [List.setIfInBounds_toArray])
        (try simp only [List.set_cons_succ])
        (try simp only [List.set_cons_zero])
        refine wpAnyH_take (i := 4) (oi := { dst := some 58, op := Op.load 49 (Operand.tmp 2), type := 49, pos := "law.go:192", after := #[{ on := 2, ground := Ground.guard }], guard := some (2, false) }) (v := undef) rfl (by kernel_rfl) (by kernel_rfl) (by kernel_rfl) (fun _ _ _ h => h) (Or.inr ⟨by kernel_rfl, rfl⟩) (by assumption) ?d121_5xr4
        (try simp only [Act.put])
        (try simp only [List.setIfInBounds_toArray])
        (try simp only [List.set_cons_succ])
        (try simp only [List.set_cons_zero])
        refine wpAnyH_take (i := 5) (oi := { dst := some 59, op := Op.binOp BinOp.eql 49 (Operand.tmp 57) (Operand.tmp 58) 49, type := 4, pos := "law.go:192", after := #[{ on := 3, ground := Ground.data }, { on := 4, ground := Ground.data }, { on := 2, ground := Ground.guard }], guard := some (2, false) }) (v := undef) rfl (by kernel_rfl) (by kernel_rfl) (by kernel_rfl) (fun _ _ _ h => h) (Or.inr ⟨by kernel_rfl, rfl⟩) (by assumption) ?d121_6xr5
        (try simp only [Act.put])
        (try simp only [List.setIfInBounds_toArray])
        (try simp only [List.set_cons_succ])
        (try simp only [List.set_cons_zero])
        refine wpAnyH_take (i := 6) (oi := { dst := some 60, op := Op.pick (Operand.tmp 56) (Operand.const (Value.bool true)) (Operand.tmp 59), type := 4, pos := "law.go:192", after := #[{ on := 2, ground := Ground.data }, { on := 5, ground := Ground.data }], guard := none }) (v := ?d121_7xv6) rfl (by kernel_rfl) (by kernel_rfl) (by kernel_rfl) (fun _ _ _ h => h) (Or.inl ⟨by rfl, ?d121_7xy6⟩) (by assumption) ?d121_7xr6
        case d121_7xy6 => (intro w hSw; (try dsimp only at hSw); go_simp; try with_reducible rfl)
        (try simp only [Act.put])
        (try simp only [List.setIfInBounds_toArray])
        (try simp only [List.set_cons_succ])
        (try simp only [List.set_cons_zero])
        refine wpAnyH_take (i := 7) (oi := { dst := some 61, op := Op.move (Operand.tmp 60), type := 4, pos := "law.go:192", after := #[{ on := 6, ground := Ground.data }, { on := 2, ground := Ground.chain }], guard := none }) (v := ?d121_8xv7) rfl (by kernel_rfl) (by kernel_rfl) (by kernel_rfl) (fun _ _ _ h => h) (Or.inl ⟨by rfl, ?d121_8xy7⟩) (by assumption) ?d121_8xr7
        case d121_8xy7 => (intro w hSw; (try dsimp only at hSw); go_simp; try with_reducible rfl)
        (try simp only [Act.put])
        (try simp only [List.setIfInBounds_toArray])
        (try simp only [List.set_cons_succ])
        (try simp only [List.set_cons_zero])
        refine wpAnyH_take (i := 8) (oi := { dst := some 62, op := Op.move (Operand.tmp 6), type := 4, pos := "law.go:192", after := #[{ on := 7, ground := Ground.guard }], guard := some (7, true) }) (v := ?d121_9xv8) rfl (by kernel_rfl) (by kernel_rfl) (by kernel_rfl) (fun _ _ _ h => h) (Or.inl ⟨by rfl, ?d121_9xy8⟩) (by assumption) ?d121_9xr8
        case d121_9xy8 => (intro w hSw; (try dsimp only at hSw); go_simp; try with_reducible rfl)
        (try simp only [Act.put])
        (try simp only [List.setIfInBounds_toArray])
        (try simp only [List.set_cons_succ])
        (try simp only [List.set_cons_zero])
        refine wpAnyH_take (i := 9) (oi := { dst := some 63, op := Op.unOp UnOp.not 4 (Operand.tmp 62), type := 4, pos := "law.go:192", after := #[{ on := 8, ground := Ground.data }, { on := 7, ground := Ground.guard }], guard := some (7, true) }) (v := ?d121_10xv9) rfl (by kernel_rfl) (by kernel_rfl) (by kernel_rfl) (fun _ _ _ h => h) (Or.inl ⟨by rfl, ?d121_10xy9⟩) (by assumption) ?d121_10xr9
        case d121_10xy9 => (intro w hSw; (try dsimp only at hSw); go_simp; try with_reducible rfl)
        (try simp only [Act.put])
        (try simp only [List.setIfInBounds_toArray])
        (try simp only [List.set_cons_succ])
        (try simp only [List.set_cons_zero])
        refine wpAnyH_take (i := 10) (oi := { dst := some 64, op := Op.move (Operand.tmp 63), type := 4, pos := "law.go:192", after := #[{ on := 9, ground := Ground.data }, { on := 7, ground := Ground.chain }, { on := 7, ground := Ground.guard }], guard := some (7, true) }) (v := ?d121_11xv10) rfl (by kernel_rfl) (by kernel_rfl) (by kernel_rfl) (fun _ _ _ h => h) (Or.inl ⟨by rfl, ?d121_11xy10⟩) (by assumption) ?d121_11xr10
        case d121_11xy10 => (intro w hSw; (try dsimp only at hSw); go_simp; try with_reducible rfl)
        (try simp only [Act.put])
        (try simp only [List.setIfInBounds_toArray])
        (try simp only [List.set_cons_succ])
        (try simp only [List.set_cons_zero])
        refine wpAnyH_take (i := 11) (oi := { dst := some 65, op := Op.load 49 (Operand.tmp 5), type := 49, pos := "law.go:192", after := #[{ on := 10, ground := Ground.guard }], guard := some (10, false) }) (v := ?d121_12xv11) rfl (by kernel_rfl) (by kernel_rfl) (by kernel_rfl) (fun _ _ _ h => h) (Or.inl ⟨by rfl, ?d121_12xy11⟩) (by assumption) ?d121_12xr11
        case d121_12xy11 => (intro w hSw; (try dsimp only at hSw); go_simp; try with_reducible rfl)
        (try simp only [Act.put])
        (try simp only [List.setIfInBounds_toArray])
        (try simp only [List.set_cons_succ])
        (try simp only [List.set_cons_zero])
        refine wpAnyH_take (i := 13) (oi := { dst := some 67, op := Op.load 66 (Operand.tmp 3), type := 66, pos := "law.go:192", after := #[{ on := 10, ground := Ground.guard }], guard := some (10, false) }) (v := ?d121_13xv13) rfl (by kernel_rfl) (by kernel_rfl) (by kernel_rfl) (fun _ _ _ h => h) (Or.inl ⟨by rfl, ?d121_13xy13⟩) (by assumption) ?d121_13xr13
        case d121_13xy13 => (intro w hSw; (try dsimp only at hSw); go_simp; try with_reducible rfl)
        (try simp only [Act.put])
        (try simp only [List.setIfInBounds_toArray])
        (try simp only [List.set_cons_succ])
        (try simp only [List.set_cons_zero])
        refine wpAnyH_ready (rs := [12]) (by kernel_rfl) (by simp) ?_
        refine AllReadyH.cons (o := { dst := some 66, op := Op.call { callee := Callee.value (Operand.func 27), args := #[Operand.tmp 65], argTypes := #[49] }, type := 66, pos := "law.go:192", after := #[{ on := 11, ground := Ground.data }, { on := 10, ground := Ground.chain }, { on := 10, ground := Ground.guard }], guard := some (10, false) }) rfl (fun K hK => ?_) AllReadyH.nil
        go_simp
        go_at_call 27
        refine (PU.out _).mono ?_
        rintro e v121 ⟨rfl, hb⟩
        replace B2 := Lib.hid (B2.out.below (hb))
        replace B3 := Lib.hid (B3.out.below (hb))
        replace HG := Lib.hid (HG.out.below (hb))
        replace X5 := Lib.hid (X5.out.below (hb))
        replace Z9 := Lib.hid (Z9.out.below (hb))
        replace BB := Lib.hid (BB.out.trans ((hb).mono BB.out.size))
        clear hb
        go_simp
        refine hK.out _ _ ?_ (fun hHeld => ?_)
        · exact ⟨(B2.out.cell 0), (B2.out.cell 1), (B2.out.cell 2), (B2.out.cell 3), (B2.out.cell 4), (B2.out.cell 5), (B3.out.cell 0), (B3.out.cell 1), (B3.out.cell 2), (B3.out.cell 3), (B3.out.cell 4), (B3.out.cell 5), (B3.out.cell 6), (B3.out.cell 7), (B3.out.cell 8), (X5.out.cell 0), (X5.out.cell 1), (X5.out.cell 2), (X5.out.cell 3), (X5.out.cell 4), (X5.out.cell 5), (Z9.out.cell 0), (Z9.out.cell 1), (Z9.out.cell 2), (Z9.out.cell 3), (Z9.out.cell 4), (Z9.out.cell 5)⟩
        clear hK K
        (try simp only [Act.put])
        (try simp only [List.setIfInBounds_toArray])
        (try simp only [List.set_cons_succ])
        (try simp only [List.set_cons_zero])
        refine wpAnyH_take (i := 14) (oi := { dst := some 68, op := Op.binOp BinOp.eql 66 (Operand.tmp 66) (Operand.tmp 67) 66, type := 4, pos := "law.go:192", after := #[{ on := 12, ground := Ground.data }, { on := 13, ground := Ground.data }, { on := 10, ground := Ground.guard }], guard := some (10, false) }) (v := ?d122_14xv14) rfl (by kernel_rfl) (by kernel_rfl) (by kernel_rfl) (fun _ _ _ h => h) (Or.inl ⟨by rfl, ?d122_14xy14⟩) (by assumption) ?d122_14xr14
        case d122_14xy14 => (intro w hSw; (try dsimp only at hSw); go_simp; try with_reducible rfl)
        (try simp only [Act.put])
        (try simp only [List.setIfInBounds_toArray])
        (try simp only [List.set_cons_succ])
        (try simp only [List.set_cons_zero])
        refine wpAnyH_take (i := 15) (oi := { dst := some 69, op := Op.pick (Operand.tmp 64) (Operand.const (Value.bool true)) (Operand.tmp 68), type := 4, pos := "law.go:192", after := #[{ on := 10, ground := Ground.data }, { on := 14, ground := Ground.data }, { on := 7, ground := Ground.guard }], guard := some (7, true) }) (v := ?d122_15xv15) rfl (by kernel_rfl) (by kernel_rfl) (by kernel_rfl) (fun _ _ _ h => h) (Or.inl ⟨by rfl, ?d122_15xy15⟩) (by assumption) ?d122_15xr15
        case d122_15xy15 => (intro w hSw; (try dsimp only at hSw); go_simp; try with_reducible rfl)
        (try simp only [Act.put])
        (try simp only [List.setIfInBounds_toArray])
        (try simp only [List.set_cons_succ])
        (try simp only [List.set_cons_zero])
        refine wpAnyH_take (i := 16) (oi := { dst := some 70, op := Op.pick (Operand.tmp 61) (Operand.tmp 69) (Operand.const (Value.bool false)), type := 4, pos := "law.go:192", after := #[{ on := 7, ground := Ground.data }, { on := 15, ground := Ground.data }], guard := none }) (v := ?d122_16xv16) rfl (by kernel_rfl) (by kernel_rfl) (by kernel_rfl) (fun _ _ _ h => h) (Or.inl ⟨by rfl, ?d122_16xy16⟩) (by assumption) ?d122_16xr16
        case d122_16xy16 => (intro w hSw; (try dsimp only at hSw); go_simp; try with_reducible rfl)
        (try simp only [Act.put])
        (try simp only [List.setIfInBounds_toArray])
        (try simp only [List.set_cons_succ])
        (try simp only [List.set_cons_zero])
        refine wpAnyH_take (i := 17) (oi := { dst := some 71, op := Op.move (Operand.tmp 70), type := 4, pos := "law.go:192", after := #[{ on := 16, ground := Ground.data }, { on := 12, ground := Ground.chain }], guard := none }) (v := ?d122_17xv17) rfl (by kernel_rfl) (by kernel_rfl) (by kernel_rfl) (fun _ _ _ h => h) (Or.inl ⟨by rfl, ?d122_17xy17⟩) (by assumption) ?d122_17xr17
        case d122_17xy17 => (intro w hSw; (try dsimp only at hSw); go_simp; try with_reducible rfl)
        (try simp only [Act.put])
        (try simp only [List.setIfInBounds_toArray])
        (try simp only [List.set_cons_succ])
        (try simp only [List.set_cons_zero])
        refine wpAnyH_ready (rs := [18]) (by kernel_rfl) (by simp) ?_
        refine AllReadyH.cons (o := { dst := some 72, op := Op.call { callee := Callee.value (Operand.func 11), args := #[], argTypes := #[] }, type := 4, pos := "law.go:192", after := #[{ on := 17, ground := Ground.chain }, { on := 17, ground := Ground.guard }], guard := some (17, true) }) rfl (fun K hK => ?_) AllReadyH.nil
        go_simp
        go_at_call 11
        refine (awake_any _ HG.out).mono ?_
        rintro e v122 ⟨rfl, hb⟩
        replace B2 := Lib.hid (B2.out.below (hb))
        replace B3 := Lib.hid (B3.out.below (hb))
        replace HG := Lib.hid (HG.out.below (hb))
        replace X5 := Lib.hid (X5.out.below (hb))
        replace Z9 := Lib.hid (Z9.out.below (hb))
        replace BB := Lib.hid (BB.out.trans ((hb).mono BB.out.size))
        clear hb
        go_simp
        refine hK.out _ _ ?_ (fun hHeld => ?_)
        · exact ⟨(B2.out.cell 0), (B2.out.cell 1), (B2.out.cell 2), (B2.out.cell 3), (B2.out.cell 4), (B2.out.cell 5), (B3.out.cell 0), (B3.out.cell 1), (B3.out.cell 2), (B3.out.cell 3), (B3.out.cell 4), (B3.out.cell 5), (B3.out.cell 6), (B3.out.cell 7), (B3.out.cell 8), (X5.out.cell 0), (X5.out.cell 1), (X5.out.cell 2), (X5.out.cell 3), (X5.out.cell 4), (X5.out.cell 5), (Z9.out.cell 0), (Z9.out.cell 1), (Z9.out.cell 2), (Z9.out.cell 3), (Z9.out.cell 4), (Z9.out.cell 5)⟩
        clear hK K
        (try simp only [Act.put])
        (try simp only [List.setIfInBounds_toArray])
        (try simp only [List.set_cons_succ])
        (try simp only [List.set_cons_zero])
        refine wpAnyH_take (i := 19) (oi := { dst := some 73, op := Op.pick (Operand.tmp 71) (Operand.tmp 72) (Operand.const (Value.bool false)), type := 4, pos := "law.go:192", after := #[{ on := 17, ground := Ground.data }, { on := 18, ground := Ground.data }], guard := none }) (v := ?d123_18xv19) rfl (by kernel_rfl) (by kernel_rfl) (by kernel_rfl) (fun _ _ _ h => h) (Or.inl ⟨by rfl, ?d123_18xy19⟩) (by assumption) ?d123_18xr19
        case d123_18xy19 => (intro w hSw; (try dsimp only at hSw); go_simp; try with_reducible rfl)
        (try simp only [Act.put])
        (try simp only [List.setIfInBounds_toArray])
        (try simp only [List.set_cons_succ])
        (try simp only [List.set_cons_zero])
        refine wpAnyH_ready (rs := [20]) (by kernel_rfl) (by simp) ?_
        refine AllReadyH.cons (o := { dst := some 4, op := Op.assign (Operand.tmp 73), type := 4, pos := "law.go:192", after := #[{ on := 19, ground := Ground.data }, { on := 18, ground := Ground.chain }, { on := 0, ground := Ground.phase }, { on := 1, ground := Ground.phase }, { on := 2, ground := Ground.phase }, { on := 3, ground := Ground.phase }, { on := 4, ground := Ground.phase }, { on := 5, ground := Ground.phase }, { on := 6, ground := Ground.phase }, { on := 7, ground := Ground.phase }, { on := 8, ground := Ground.phase }, { on := 9, ground := Ground.phase }, { on := 10, ground := Ground.phase }, { on := 11, ground := Ground.phase }, { on := 12, ground := Ground.phase }, { on := 13, ground := Ground.phase }, { on := 14, ground := Ground.phase }, { on := 15, ground := Ground.phase }, { on := 16, ground := Ground.phase }, { on := 17, ground := Ground.phase }, { on := 18, ground := Ground.phase }, { on := 19, ground := Ground.phase }], guard := none }) rfl (fun K hK => ?_) AllReadyH.nil
        go_simp
        refine hK.out _ _ ?_ (fun hHeld => ?_)
        · exact ⟨(B2.out.cell 0), (B2.out.cell 1), (B2.out.cell 2), (B2.out.cell 3), (B2.out.cell 4), (B2.out.cell 5), (B3.out.cell 0), (B3.out.cell 1), (B3.out.cell 2), (B3.out.cell 3), (B3.out.cell 4), (B3.out.cell 5), (B3.out.cell 6), (B3.out.cell 7), (B3.out.cell 8), (X5.out.cell 0), (X5.out.cell 1), (X5.out.cell 2), (X5.out.cell 3), (X5.out.cell 4), (X5.out.cell 5), (Z9.out.cell 0), (Z9.out.cell 1), (Z9.out.cell 2), (Z9.out.cell 3), (Z9.out.cell 4), (Z9.out.cell 5)⟩
        clear hK K
        (try simp only [Act.put])
        (try simp only [List.setIfInBounds_toArray])
        (try simp only [List.set_cons_succ])
        (try simp only [List.set_cons_zero])
        refine wpAnyH_done (by kernel_rfl) ?_ _
        go_wp2_with fail
        go_ret
        exact ⟨rfl, BB.out⟩
      | false =>
        replace B2 := Lib.hid (B2.out.below ((Below.refl _ _).drew))
        replace B3 := Lib.hid (B3.out.below ((Below.refl _ _).drew))
        replace HG := Lib.hid (HG.out.below ((Below.refl _ _).drew))
        replace X5 := Lib.hid (X5.out.below ((Below.refl _ _).drew))
        replace Z9 := Lib.hid (Z9.out.below ((Below.refl _ _).drew))
        replace BB := Lib.hid (BB.out.trans (((Below.refl _ _).drew).mono BB.out.size))
        refine wp_region_held_drew (S := fun w' => w'.cell? ⟨q, 0, none⟩ = some (.int .i64 a) ∧ w'.cell? ⟨q, 1, none⟩ = some (.int .i64 v) ∧ w'.cell? ⟨q, 2, none⟩ = some (.int .u32 n) ∧ w'.cell? ⟨q, 3, none⟩ = some (.int .u32 0) ∧ w'.cell? ⟨q, 4, none⟩ = some (.int .i64 z) ∧ w'.cell? ⟨q, 5, none⟩ = some (.bool b) ∧ w'.cell? ⟨q + 1, 0, none⟩ = some (.int .i64 x0) ∧ w'.cell? ⟨q + 1, 1, none⟩ = some (.int .u32 x1) ∧ w'.cell? ⟨q + 1, 2, none⟩ = some (.int .u32 x2) ∧ w'.cell? ⟨q + 1, 3, none⟩ = some (.int .i64 y0) ∧ w'.cell? ⟨q + 1, 4, none⟩ = some (.int .u32 y1) ∧ w'.cell? ⟨q + 1, 5, none⟩ = some (.int .u32 y2) ∧ w'.cell? ⟨q + 1, 6, none⟩ = some (.int .i64 z0) ∧ w'.cell? ⟨q + 1, 7, none⟩ = some (.int .u32 z1) ∧ w'.cell? ⟨q + 1, 8, none⟩ = some (.int .u32 z2) ∧ w'.cell? ⟨q5, 0, none⟩ = some (.int .i64 u0) ∧ w'.cell? ⟨q5, 1, none⟩ = some (.int .i64 u1) ∧ w'.cell? ⟨q5, 2, none⟩ = some (.int .u32 u2) ∧ w'.cell? ⟨q5, 3, none⟩ = some (.int .u32 u3) ∧ w'.cell? ⟨q5, 4, none⟩ = some (.int .i64 u4) ∧ w'.cell? ⟨q5, 5, none⟩ = some (.bool u5) ∧ w'.cell? ⟨q9, 0, none⟩ = some (.int .i64 0) ∧ w'.cell? ⟨q9, 1, none⟩ = some (.int .i64 0) ∧ w'.cell? ⟨q9, 2, none⟩ = some (.int .u32 0) ∧ w'.cell? ⟨q9, 3, none⟩ = some (.int .u32 0) ∧ w'.cell? ⟨q9, 4, none⟩ = some (.int .i64 0) ∧ w'.cell? ⟨q9, 5, none⟩ = some (.bool false)) (by kernel_rfl) ⟨(B2.out.cell 0), (B2.out.cell 1), (B2.out.cell 2), (B2.out.cell 3), (B2.out.cell 4), (B2.out.cell 5), (B3.out.cell 0), (B3.out.cell 1), (B3.out.cell 2), (B3.out.cell 3), (B3.out.cell 4), (B3.out.cell 5), (B3.out.cell 6), (B3.out.cell 7), (B3.out.cell 8), (X5.out.cell 0), (X5.out.cell 1), (X5.out.cell 2), (X5.out.cell 3), (X5.out.cell 4), (X5.out.cell 5), (Z9.out.cell 0), (Z9.out.cell 1), (Z9.out.cell 2), (Z9.out.cell 3), (Z9.out.cell 4), (Z9.out.cell 5)⟩ (fun hHeld => ?_)
        generalize World.drew W5 = V150 at *
        refine wpAnyH_take (i := 0) (oi := { dst := some 54, op := Op.move (Operand.tmp 10), type := 4, pos := "law.go:192", after := #[], guard := none }) (v := ?d151_1xv0) rfl (by kernel_rfl) (by kernel_rfl) (by kernel_rfl) (fun _ _ _ h => h) (Or.inl ⟨by rfl, ?d151_1xy0⟩) (by assumption) ?d151_1xr0
        case d151_1xy0 => (intro w hSw; (try dsimp only at hSw); go_simp; try with_reducible rfl)
        (try simp only [Act.put])
        (try simp only [List.setIfInBounds_toArray])
        (try simp only [List.set_cons_succ])
        (try simp only [List.set_cons_zero])
        refine wpAnyH_take (i := 1) (oi := { dst := some 55, op := Op.unOp UnOp.not 4 (Operand.tmp 54), type := 4, pos := "law.go:192", after := #[{ on := 0, ground := Ground.data }], guard := none }) (v := ?d151_2xv1) rfl (by kernel_rfl) (by kernel_rfl) (by kernel_rfl) (fun _ _ _ h => h) (Or.inl ⟨by rfl, ?d151_2xy1⟩) (by assumption) ?d151_2xr1
        case d151_2xy1 => (intro w hSw; (try dsimp only at hSw); go_simp; try with_reducible rfl)
        (try simp only [Act.put])
        (try simp only [List.setIfInBounds_toArray])
        (try simp only [List.set_cons_succ])
        (try simp only [List.set_cons_zero])
        refine wpAnyH_take (i := 2) (oi := { dst := some 56, op := Op.move (Operand.tmp 55), type := 4, pos := "law.go:192", after := #[{ on := 1, ground := Ground.data }], guard := none }) (v := ?d151_3xv2) rfl (by kernel_rfl) (by kernel_rfl) (by kernel_rfl) (fun _ _ _ h => h) (Or.inl ⟨by rfl, ?d151_3xy2⟩) (by assumption) ?d151_3xr2
        case d151_3xy2 => (intro w hSw; (try dsimp only at hSw); go_simp; try with_reducible rfl)
        (try simp only [Act.put])
        (try simp only [List.setIfInBounds_toArray])
        (try simp only [List.set_cons_succ])
        (try simp only [List.set_cons_zero])
        refine wpAnyH_take (i := 3) (oi := { dst := some 57, op := Op.load 49 (Operand.tmp 9), type := 49, pos := "law.go:192", after := #[{ on := 2, ground := Ground.guard }], guard := some (2, false) }) (v := undef) rfl (by kernel_rfl) (by kernel_rfl) (by kernel_rfl) (fun _ _ _ h => h) (Or.inr ⟨by kernel_rfl, rfl⟩) (by assumption) ?d151_4xr3
        (try simp only [Act.put])
        (try simp only [List.setIfInBounds_toArray])
        (try simp only [List.set_cons_succ])
        (try simp only [List.set_cons_zero])
        refine wpAnyH_take (i := 4) (oi := { dst := some 58, op := Op.load 49 (Operand.tmp 2), type := 49, pos := "law.go:192", after := #[{ on := 2, ground := Ground.guard }], guard := some (2, false) }) (v := undef) rfl (by kernel_rfl) (by kernel_rfl) (by kernel_rfl) (fun _ _ _ h => h) (Or.inr ⟨by kernel_rfl, rfl⟩) (by assumption) ?d151_5xr4
        (try simp only [Act.put])
        (try simp only [List.setIfInBounds_toArray])
        (try simp only [List.set_cons_succ])
        (try simp only [List.set_cons_zero])
        refine wpAnyH_take (i := 5) (oi := { dst := some 59, op := Op.binOp BinOp.eql 49 (Operand.tmp 57) (Operand.tmp 58) 49, type := 4, pos := "law.go:192", after := #[{ on := 3, ground := Ground.data }, { on := 4, ground := Ground.data }, { on := 2, ground := Ground.guard }], guard := some (2, false) }) (v := undef) rfl (by kernel_rfl) (by kernel_rfl) (by kernel_rfl) (fun _ _ _ h => h) (Or.inr ⟨by kernel_rfl, rfl⟩) (by assumption) ?d151_6xr5
        (try simp only [Act.put])
        (try simp only [List.setIfInBounds_toArray])
        (try simp only [List.set_cons_succ])
        (try simp only [List.set_cons_zero])
        refine wpAnyH_take (i := 6) (oi := { dst := some 60, op := Op.pick (Operand.tmp 56) (Operand.const (Value.bool true)) (Operand.tmp 59), type := 4, pos := "law.go:192", after := #[{ on := 2, ground := Ground.data }, { on := 5, ground := Ground.data }], guard := none }) (v := ?d151_7xv6) rfl (by kernel_rfl) (by kernel_rfl) (by kernel_rfl) (fun _ _ _ h => h) (Or.inl ⟨by rfl, ?d151_7xy6⟩) (by assumption) ?d151_7xr6
        case d151_7xy6 => (intro w hSw; (try dsimp only at hSw); go_simp; try with_reducible rfl)
        (try simp only [Act.put])
        (try simp only [List.setIfInBounds_toArray])
        (try simp only [List.set_cons_succ])
        (try simp only [List.set_cons_zero])
        refine wpAnyH_take (i := 7) (oi := { dst := some 61, op := Op.move (Operand.tmp 60), type := 4, pos := "law.go:192", after := #[{ on := 6, ground := Ground.data }, { on := 2, ground := Ground.chain }], guard := none }) (v := ?d151_8xv7) rfl (by kernel_rfl) (by kernel_rfl) (by kernel_rfl) (fun _ _ _ h => h) (Or.inl ⟨by rfl, ?d151_8xy7⟩) (by assumption) ?d151_8xr7
        case d151_8xy7 => (intro w hSw; (try dsimp only at hSw); go_simp; try with_reducible rfl)
        (try simp only [Act.put])
        (try simp only [List.setIfInBounds_toArray])
        (try simp only [List.set_cons_succ])
        (try simp only [List.set_cons_zero])
        refine wpAnyH_take (i := 8) (oi := { dst := some 62, op := Op.move (Operand.tmp 6), type := 4, pos := "law.go:192", after := #[{ on := 7, ground := Ground.guard }], guard := some (7, true) }) (v := ?d151_9xv8) rfl (by kernel_rfl) (by kernel_rfl) (by kernel_rfl) (fun _ _ _ h => h) (Or.inl ⟨by rfl, ?d151_9xy8⟩) (by assumption) ?d151_9xr8
        case d151_9xy8 => (intro w hSw; (try dsimp only at hSw); go_simp; try with_reducible rfl)
        (try simp only [Act.put])
        (try simp only [List.setIfInBounds_toArray])
        (try simp only [List.set_cons_succ])
        (try simp only [List.set_cons_zero])
        refine wpAnyH_take (i := 9) (oi := { dst := some 63, op := Op.unOp UnOp.not 4 (Operand.tmp 62), type := 4, pos := "law.go:192", after := #[{ on := 8, ground := Ground.data }, { on := 7, ground := Ground.guard }], guard := some (7, true) }) (v := ?d151_10xv9) rfl (by kernel_rfl) (by kernel_rfl) (by kernel_rfl) (fun _ _ _ h => h) (Or.inl ⟨by rfl, ?d151_10xy9⟩) (by assumption) ?d151_10xr9
        case d151_10xy9 => (intro w hSw; (try dsimp only at hSw); go_simp; try with_reducible rfl)
        (try simp only [Act.put])
        (try simp only [List.setIfInBounds_toArray])
        (try simp only [List.set_cons_succ])
        (try simp only [List.set_cons_zero])
        refine wpAnyH_take (i := 10) (oi := { dst := some 64, op := Op.move (Operand.tmp 63), type := 4, pos := "law.go:192", after := #[{ on := 9, ground := Ground.data }, { on := 7, ground := Ground.chain }, { on := 7, ground := Ground.guard }], guard := some (7, true) }) (v := ?d151_11xv10) rfl (by kernel_rfl) (by kernel_rfl) (by kernel_rfl) (fun _ _ _ h => h) (Or.inl ⟨by rfl, ?d151_11xy10⟩) (by assumption) ?d151_11xr10
        case d151_11xy10 => (intro w hSw; (try dsimp only at hSw); go_simp; try with_reducible rfl)
        (try simp only [Act.put])
        (try simp only [List.setIfInBounds_toArray])
        (try simp only [List.set_cons_succ])
        (try simp only [List.set_cons_zero])
        refine wpAnyH_take (i := 11) (oi := { dst := some 65, op := Op.load 49 (Operand.tmp 5), type := 49, pos := "law.go:192", after := #[{ on := 10, ground := Ground.guard }], guard := some (10, false) }) (v := undef) rfl (by kernel_rfl) (by kernel_rfl) (by kernel_rfl) (fun _ _ _ h => h) (Or.inr ⟨by kernel_rfl, rfl⟩) (by assumption) ?d151_12xr11
        (try simp only [Act.put])
        (try simp only [List.setIfInBounds_toArray])
        (try simp only [List.set_cons_succ])
        (try simp only [List.set_cons_zero])
        refine wpAnyH_take (i := 12) (oi := { dst := some 66, op := Op.call { callee := Callee.value (Operand.func 27), args := #[Operand.tmp 65], argTypes := #[49] }, type := 66, pos := "law.go:192", after := #[{ on := 11, ground := Ground.data }, { on := 10, ground := Ground.chain }, { on := 10, ground := Ground.guard }], guard := some (10, false) }) (v := undef) rfl (by kernel_rfl) (by kernel_rfl) (by kernel_rfl) (fun _ _ _ h => h) (Or.inr ⟨by kernel_rfl, rfl⟩) (by assumption) ?d151_13xr12
        (try simp only [Act.put])
        (try simp only [List.setIfInBounds_toArray])
        (try simp only [List.set_cons_succ])
        (try simp only [List.set_cons_zero])
        refine wpAnyH_take (i := 13) (oi := { dst := some 67, op := Op.load 66 (Operand.tmp 3), type := 66, pos := "law.go:192", after := #[{ on := 10, ground := Ground.guard }], guard := some (10, false) }) (v := undef) rfl (by kernel_rfl) (by kernel_rfl) (by kernel_rfl) (fun _ _ _ h => h) (Or.inr ⟨by kernel_rfl, rfl⟩) (by assumption) ?d151_14xr13
        (try simp only [Act.put])
        (try simp only [List.setIfInBounds_toArray])
        (try simp only [List.set_cons_succ])
        (try simp only [List.set_cons_zero])
        refine wpAnyH_take (i := 14) (oi := { dst := some 68, op := Op.binOp BinOp.eql 66 (Operand.tmp 66) (Operand.tmp 67) 66, type := 4, pos := "law.go:192", after := #[{ on := 12, ground := Ground.data }, { on := 13, ground := Ground.data }, { on := 10, ground := Ground.guard }], guard := some (10, false) }) (v := undef) rfl (by kernel_rfl) (by kernel_rfl) (by kernel_rfl) (fun _ _ _ h => h) (Or.inr ⟨by kernel_rfl, rfl⟩) (by assumption) ?d151_15xr14
        (try simp only [Act.put])
        (try simp only [List.setIfInBounds_toArray])
        (try simp only [List.set_cons_succ])
        (try simp only [List.set_cons_zero])
        refine wpAnyH_take (i := 15) (oi := { dst := some 69, op := Op.pick (Operand.tmp 64) (Operand.const (Value.bool true)) (Operand.tmp 68), type := 4, pos := "law.go:192", after := #[{ on := 10, ground := Ground.data }, { on := 14, ground := Ground.data }, { on := 7, ground := Ground.guard }], guard := some (7, true) }) (v := ?d151_16xv15) rfl (by kernel_rfl) (by kernel_rfl) (by kernel_rfl) (fun _ _ _ h => h) (Or.inl ⟨by rfl, ?d151_16xy15⟩) (by assumption) ?d151_16xr15
        case d151_16xy15 => (intro w hSw; (try dsimp only at hSw); go_simp; try with_reducible rfl)
        (try simp only [Act.put])
        (try simp only [List.setIfInBounds_toArray])
        (try simp only [List.set_cons_succ])
        (try simp only [List.set_cons_zero])
        refine wpAnyH_take (i := 16) (oi := { dst := some 70, op := Op.pick (Operand.tmp 61) (Operand.tmp 69) (Operand.const (Value.bool false)), type := 4, pos := "law.go:192", after := #[{ on := 7, ground := Ground.data }, { on := 15, ground := Ground.data }], guard := none }) (v := ?d151_17xv16) rfl (by kernel_rfl) (by kernel_rfl) (by kernel_rfl) (fun _ _ _ h => h) (Or.inl ⟨by rfl, ?d151_17xy16⟩) (by assumption) ?d151_17xr16
        case d151_17xy16 => (intro w hSw; (try dsimp only at hSw); go_simp; try with_reducible rfl)
        (try simp only [Act.put])
        (try simp only [List.setIfInBounds_toArray])
        (try simp only [List.set_cons_succ])
        (try simp only [List.set_cons_zero])
        refine wpAnyH_take (i := 17) (oi := { dst := some 71, op := Op.move (Operand.tmp 70), type := 4, pos := "law.go:192", after := #[{ on := 16, ground := Ground.data }, { on := 12, ground := Ground.chain }], guard := none }) (v := ?d151_18xv17) rfl (by kernel_rfl) (by kernel_rfl) (by kernel_rfl) (fun _ _ _ h => h) (Or.inl ⟨by rfl, ?d151_18xy17⟩) (by assumption) ?d151_18xr17
        case d151_18xy17 => (intro w hSw; (try dsimp only at hSw); go_simp; try with_reducible rfl)
        (try simp only [Act.put])
        (try simp only [List.setIfInBounds_toArray])
        (try simp only [List.set_cons_succ])
        (try simp only [List.set_cons_zero])
        refine wpAnyH_ready (rs := [18]) (by kernel_rfl) (by simp) ?_
        refine AllReadyH.cons (o := { dst := some 72, op := Op.call { callee := Callee.value (Operand.func 11), args := #[], argTypes := #[] }, type := 4, pos := "law.go:192", after := #[{ on := 17, ground := Ground.chain }, { on := 17, ground := Ground.guard }], guard := some (17, true) }) rfl (fun K hK => ?_) AllReadyH.nil
        go_simp
        go_at_call 11
        refine (awake_any _ HG.out).mono ?_
        rintro e v151 ⟨rfl, hb⟩
        replace B2 := Lib.hid (B2.out.below (hb))
        replace B3 := Lib.hid (B3.out.below (hb))
        replace HG := Lib.hid (HG.out.below (hb))
        replace X5 := Lib.hid (X5.out.below (hb))
        replace Z9 := Lib.hid (Z9.out.below (hb))
        replace BB := Lib.hid (BB.out.trans ((hb).mono BB.out.size))
        clear hb
        go_simp
        refine hK.out _ _ ?_ (fun hHeld => ?_)
        · exact ⟨(B2.out.cell 0), (B2.out.cell 1), (B2.out.cell 2), (B2.out.cell 3), (B2.out.cell 4), (B2.out.cell 5), (B3.out.cell 0), (B3.out.cell 1), (B3.out.cell 2), (B3.out.cell 3), (B3.out.cell 4), (B3.out.cell 5), (B3.out.cell 6), (B3.out.cell 7), (B3.out.cell 8), (X5.out.cell 0), (X5.out.cell 1), (X5.out.cell 2), (X5.out.cell 3), (X5.out.cell 4), (X5.out.cell 5), (Z9.out.cell 0), (Z9.out.cell 1), (Z9.out.cell 2), (Z9.out.cell 3), (Z9.out.cell 4), (Z9.out.cell 5)⟩
        clear hK K
        (try simp only [Act.put])
        (try simp only [List.setIfInBounds_toArray])
        (try simp only [List.set_cons_succ])
        (try simp only [List.set_cons_zero])
        refine wpAnyH_take (i := 19) (oi := { dst := some 73, op := Op.pick (Operand.tmp 71) (Operand.tmp 72) (Operand.const (Value.bool false)), type := 4, pos := "law.go:192", after := #[{ on := 17, ground := Ground.data }, { on := 18, ground := Ground.data }], guard := none }) (v := ?d152_19xv19) rfl (by kernel_rfl) (by kernel_rfl) (by kernel_rfl) (fun _ _ _ h => h) (Or.inl ⟨by rfl, ?d152_19xy19⟩) (by assumption) ?d152_19xr19
        case d152_19xy19 => (intro w hSw; (try dsimp only at hSw); go_simp; try with_reducible rfl)
        (try simp only [Act.put])
        (try simp only [List.setIfInBounds_toArray])
        (try simp only [List.set_cons_succ])
        (try simp only [List.set_cons_zero])
        refine wpAnyH_ready (rs := [20]) (by kernel_rfl) (by simp) ?_
        refine AllReadyH.cons (o := { dst := some 4, op := Op.assign (Operand.tmp 73), type := 4, pos := "law.go:192", after := #[{ on := 19, ground := Ground.data }, { on := 18, ground := Ground.chain }, { on := 0, ground := Ground.phase }, { on := 1, ground := Ground.phase }, { on := 2, ground := Ground.phase }, { on := 3, ground := Ground.phase }, { on := 4, ground := Ground.phase }, { on := 5, ground := Ground.phase }, { on := 6, ground := Ground.phase }, { on := 7, ground := Ground.phase }, { on := 8, ground := Ground.phase }, { on := 9, ground := Ground.phase }, { on := 10, ground := Ground.phase }, { on := 11, ground := Ground.phase }, { on := 12, ground := Ground.phase }, { on := 13, ground := Ground.phase }, { on := 14, ground := Ground.phase }, { on := 15, ground := Ground.phase }, { on := 16, ground := Ground.phase }, { on := 17, ground := Ground.phase }, { on := 18, ground := Ground.phase }, { on := 19, ground := Ground.phase }], guard := none }) rfl (fun K hK => ?_) AllReadyH.nil
        go_simp
        refine hK.out _ _ ?_ (fun hHeld => ?_)
        · exact ⟨(B2.out.cell 0), (B2.out.cell 1), (B2.out.cell 2), (B2.out.cell 3), (B2.out.cell 4), (B2.out.cell 5), (B3.out.cell 0), (B3.out.cell 1), (B3.out.cell 2), (B3.out.cell 3), (B3.out.cell 4), (B3.out.cell 5), (B3.out.cell 6), (B3.out.cell 7), (B3.out.cell 8), (X5.out.cell 0), (X5.out.cell 1), (X5.out.cell 2), (X5.out.cell 3), (X5.out.cell 4), (X5.out.cell 5), (Z9.out.cell 0), (Z9.out.cell 1), (Z9.out.cell 2), (Z9.out.cell 3), (Z9.out.cell 4), (Z9.out.cell 5)⟩
        clear hK K
        (try simp only [Act.put])
        (try simp only [List.setIfInBounds_toArray])
        (try simp only [List.set_cons_succ])
        (try simp only [List.set_cons_zero])
        refine wpAnyH_done (by kernel_rfl) ?_ _
        go_wp2_with fail
        go_ret
        exact ⟨rfl, BB.out⟩
    · clear hr
      generalize w4.alloc (.cells #[.int .i64 0, .int .i64 0, .int .u32 0, .int .u32 0, .int .i64 0, .bool false] 49) = W4 at *
      generalize w4.heap.size = q9 at *
      have k0 := B2.out.cell 0
      have k1 := B2.out.cell 1
      have k2 := B2.out.cell 2
      have k3 := B2.out.cell 3
      have k4 := B2.out.cell 4
      have k5 := B2.out.cell 5
      simp at k0 k1 k2 k3 k4 k5
      have f3 := B2.out.free 3
      have l0 := B2.out.lt
      go_upto_region 9 with fail
      clear k0 k1 k2 k3 k4 k5 f3 l0
      replace B2 : Hid (Box (W4.setCell ⟨q, 3, none⟩ (.int .u32 0)) q #[.int .i64 a, .int .i64 v, .int .u32 n, .int .u32 0, .int .i64 z, .bool b] 49) := Lib.hid (B2.out.set 3 _)
      replace B3 : Hid (Box (W4.setCell ⟨q, 3, none⟩ (.int .u32 0)) (q + 1) #[.int .i64 x0, .int .u32 x1, .int .u32 x2, .int .i64 y0, .int .u32 y1, .int .u32 y2, .int .i64 z0, .int .u32 z1, .int .u32 z2] 66) := Lib.hid (B3.out.other (by omega) 3 _)
      replace X5 : Hid (Box (W4.setCell ⟨q, 3, none⟩ (.int .u32 0)) q5 #[.int .i64 u0, .int .i64 u1, .int .u32 u2, .int .u32 u3, .int .i64 u4, .bool u5] 49) := Lib.hid (X5.out.other (by have := L5.out; omega) 3 _)
      replace Z9 : Hid (Box (W4.setCell ⟨q, 3, none⟩ (.int .u32 0)) q9 #[.int .i64 0, .int .i64 0, .int .u32 0, .int .u32 0, .int .i64 0, .bool false] 49) := Lib.hid (Z9.out.other (by have := L9.out; omega) 3 _)
      replace BB : Hid (Below w.heap.size w (W4.setCell ⟨q, 3, none⟩ (.int .u32 0))) := Lib.hid (BB.out.setCell (show w.heap.size ≤ q from Nat.le_of_eq HQ.out) (.int .u32 0))
      replace HG := Lib.hid (HG0.out.below BB.out)
      generalize W4.setCell ⟨q, 3, none⟩ (.int .u32 0) = W5 at *
      cases ok with
      | true =>
        obtain ⟨h1, h2, h3⟩ := PE.out rfl
        rw [h1, h2, h3] at PU
        simp only at PU
        replace B2 := Lib.hid (B2.out.below ((Below.refl _ _).drew))
        replace B3 := Lib.hid (B3.out.below ((Below.refl _ _).drew))
        replace HG := Lib.hid (HG.out.below ((Below.refl _ _).drew))
        replace X5 := Lib.hid (X5.out.below ((Below.refl _ _).drew))
        replace Z9 := Lib.hid (Z9.out.below ((Below.refl _ _).drew))
        replace BB := Lib.hid (BB.out.trans (((Below.refl _ _).drew).mono BB.out.size))
        refine wp_region_held_drew (S := fun w' => w'.cell? ⟨q, 0, none⟩ = some (.int .i64 a) ∧ w'.cell? ⟨q, 1, none⟩ = some (.int .i64 v) ∧ w'.cell? ⟨q, 2, none⟩ = some (.int .u32 n) ∧ w'.cell? ⟨q, 3, none⟩ = some (.int .u32 0) ∧ w'.cell? ⟨q, 4, none⟩ = some (.int .i64 z) ∧ w'.cell? ⟨q, 5, none⟩ = some (.bool b) ∧ w'.cell? ⟨q + 1, 0, none⟩ = some (.int .i64 x0) ∧ w'.cell? ⟨q + 1, 1, none⟩ = some (.int .u32 x1) ∧ w'.cell? ⟨q + 1, 2, none⟩ = some (.int .u32 x2) ∧ w'.cell? ⟨q + 1, 3, none⟩ = some (.int .i64 y0) ∧ w'.cell? ⟨q + 1, 4, none⟩ = some (.int .u32 y1) ∧ w'.cell? ⟨q + 1, 5, none⟩ = some (.int .u32 y2) ∧ w'.cell? ⟨q + 1, 6, none⟩ = some (.int .i64 z0) ∧ w'.cell? ⟨q + 1, 7, none⟩ = some (.int .u32 z1) ∧ w'.cell? ⟨q + 1, 8, none⟩ = some (.int .u32 z2) ∧ w'.cell? ⟨q5, 0, none⟩ = some (.int .i64 u0) ∧ w'.cell? ⟨q5, 1, none⟩ = some (.int .i64 u1) ∧ w'.cell? ⟨q5, 2, none⟩ = some (.int .u32 u2) ∧ w'.cell? ⟨q5, 3, none⟩ = some (.int .u32 u3) ∧ w'.cell? ⟨q5, 4, none⟩ = some (.int .i64 u4) ∧ w'.cell? ⟨q5, 5, none⟩ = some (.bool u5) ∧ w'.cell? ⟨q9, 0, none⟩ = some (.int .i64 0) ∧ w'.cell? ⟨q9, 1, none⟩ = some (.int .i64 0) ∧ w'.cell? ⟨q9, 2, none⟩ = some (.int .u32 0) ∧ w'.cell? ⟨q9, 3, none⟩ = some (.int .u32 0) ∧ w'.cell? ⟨q9, 4, none⟩ = some (.int .i64 0) ∧ w'.cell? ⟨q9, 5, none⟩ = some (.bool false)) (by kernel_rfl) ⟨(B2.out.cell 0), (B2.out.cell 1), (B2.out.cell 2), (B2.out.cell 3), (B2.out.cell 4), (B2.out.cell 5), (B3.out.cell 0), (B3.out.cell 1), (B3.out.cell 2), (B3.out.cell 3), (B3.out.cell 4), (B3.out.cell 5), (B3.out.cell 6), (B3.out.cell 7), (B3.out.cell 8), (X5.out.cell 0), (X5.out.cell 1), (X5.out.cell 2), (X5.out.cell 3), (X5.out.cell 4), (X5.out.cell 5), (Z9.out.cell 0), (Z9.out.cell 1), (Z9.out.cell 2), (Z9.out.cell 3), (Z9.out.cell 4), (Z9.out.cell 5)⟩ (fun hHeld => ?_)
        generalize World.drew W5 = V180 at *
        refine wpAnyH_take (i := 0) (oi := { dst := some 54, op := Op.move (Operand.tmp 10), type := 4, pos := "law.go:192", after := #[], guard := none }) (v := ?d181_1xv0) rfl (by kernel_rfl) (by kernel_rfl) (by kernel_rfl) (fun _ _ _ h => h) (Or.inl ⟨by rfl, ?d181_1xy0⟩) (by assumption) ?d181_1xr0
        case d181_1xy0 => (intro w hSw; (try dsimp only at hSw); go_simp; try with_reducible rfl)
        (try simp only [Act.put])
        (try simp only [List.setIfInBounds_toArray])
        (try simp only [List.set_cons_succ])
        (try simp only [List.set_cons_zero])
        refine wpAnyH_take (i := 1) (oi := { dst := some 55, op := Op.unOp UnOp.not 4 (Operand.tmp 54), type := 4, pos := "law.go:192", after := #[{ on := 0, ground := Ground.data }], guard := none }) (v := ?d181_2xv1) rfl (by kernel_rfl) (by kernel_rfl) (by kernel_rfl) (fun _ _ _ h => h) (Or.inl ⟨by rfl, ?d181_2xy1⟩) (by assumption) ?d181_2xr1
        case d181_2xy1 => (intro w hSw; (try dsimp only at hSw); go_simp; try with_reducible rfl)
        (try simp only [Act.put])
        (try simp only [List.setIfInBounds_toArray])
        (try simp only [List.set_cons_succ])
        (try simp only [List.set_cons_zero])
        refine wpAnyH_take (i := 2) (oi := { dst := some 56, op := Op.move (Operand.tmp 55), type := 4, pos := "law.go:192", after := #[{ on := 1, ground := Ground.data }], guard := none }) (v := ?d181_3xv2) rfl (by kernel_rfl) (by kernel_rfl) (by kernel_rfl) (fun _ _ _ h => h) (Or.inl ⟨by rfl, ?d181_3xy2⟩) (by assumption) ?d181_3xr2
        case d181_3xy2 => (intro w hSw; (try dsimp only at hSw); go_simp; try with_reducible rfl)
        (try simp only [Act.put])
        (try simp only [List.setIfInBounds_toArray])
        (try simp only [List.set_cons_succ])
        (try simp only [List.set_cons_zero])
        refine wpAnyH_take (i := 3) (oi := { dst := some 57, op := Op.load 49 (Operand.tmp 9), type := 49, pos := "law.go:192", after := #[{ on := 2, ground := Ground.guard }], guard := some (2, false) }) (v := undef) rfl (by kernel_rfl) (by kernel_rfl) (by kernel_rfl) (fun _ _ _ h => h) (Or.inr ⟨by kernel_rfl, rfl⟩) (by assumption) ?d181_4xr3
        (try simp only [Act.put])
        (try simp only [List.setIfInBounds_toArray])
        (try simp only [List.set_cons_succ])
        (try simp only [List.set_cons_zero])
        refine wpAnyH_take (i := 4) (oi := { dst := some 58, op := Op.load 49 (Operand.tmp 2), type := 49, pos := "law.go:192", after := #[{ on := 2, ground := Ground.guard }], guard := some (2, false) }) (v := undef) rfl (by kernel_rfl) (by kernel_rfl) (by kernel_rfl) (fun _ _ _ h => h) (Or.inr ⟨by kernel_rfl, rfl⟩) (by assumption) ?d181_5xr4
        (try simp only [Act.put])
        (try simp only [List.setIfInBounds_toArray])
        (try simp only [List.set_cons_succ])
        (try simp only [List.set_cons_zero])
        refine wpAnyH_take (i := 5) (oi := { dst := some 59, op := Op.binOp BinOp.eql 49 (Operand.tmp 57) (Operand.tmp 58) 49, type := 4, pos := "law.go:192", after := #[{ on := 3, ground := Ground.data }, { on := 4, ground := Ground.data }, { on := 2, ground := Ground.guard }], guard := some (2, false) }) (v := undef) rfl (by kernel_rfl) (by kernel_rfl) (by kernel_rfl) (fun _ _ _ h => h) (Or.inr ⟨by kernel_rfl, rfl⟩) (by assumption) ?d181_6xr5
        (try simp only [Act.put])
        (try simp only [List.setIfInBounds_toArray])
        (try simp only [List.set_cons_succ])
        (try simp only [List.set_cons_zero])
        refine wpAnyH_take (i := 6) (oi := { dst := some 60, op := Op.pick (Operand.tmp 56) (Operand.const (Value.bool true)) (Operand.tmp 59), type := 4, pos := "law.go:192", after := #[{ on := 2, ground := Ground.data }, { on := 5, ground := Ground.data }], guard := none }) (v := ?d181_7xv6) rfl (by kernel_rfl) (by kernel_rfl) (by kernel_rfl) (fun _ _ _ h => h) (Or.inl ⟨by rfl, ?d181_7xy6⟩) (by assumption) ?d181_7xr6
        case d181_7xy6 => (intro w hSw; (try dsimp only at hSw); go_simp; try with_reducible rfl)
        (try simp only [Act.put])
        (try simp only [List.setIfInBounds_toArray])
        (try simp only [List.set_cons_succ])
        (try simp only [List.set_cons_zero])
        refine wpAnyH_take (i := 7) (oi := { dst := some 61, op := Op.move (Operand.tmp 60), type := 4, pos := "law.go:192", after := #[{ on := 6, ground := Ground.data }, { on := 2, ground := Ground.chain }], guard := none }) (v := ?d181_8xv7) rfl (by kernel_rfl) (by kernel_rfl) (by kernel_rfl) (fun _ _ _ h => h) (Or.inl ⟨by rfl, ?d181_8xy7⟩) (by assumption) ?d181_8xr7
        case d181_8xy7 => (intro w hSw; (try dsimp only at hSw); go_simp; try with_reducible rfl)
        (try simp only [Act.put])
        (try simp only [List.setIfInBounds_toArray])
        (try simp only [List.set_cons_succ])
        (try simp only [List.set_cons_zero])
        refine wpAnyH_take (i := 8) (oi := { dst := some 62, op := Op.move (Operand.tmp 6), type := 4, pos := "law.go:192", after := #[{ on := 7, ground := Ground.guard }], guard := some (7, true) }) (v := ?d181_9xv8) rfl (by kernel_rfl) (by kernel_rfl) (by kernel_rfl) (fun _ _ _ h => h) (Or.inl ⟨by rfl, ?d181_9xy8⟩) (by assumption) ?d181_9xr8
        case d181_9xy8 => (intro w hSw; (try dsimp only at hSw); go_simp; try with_reducible rfl)
        (try simp only [Act.put])
        (try simp only [List.setIfInBounds_toArray])
        (try simp only [List.set_cons_succ])
        (try simp only [List.set_cons_zero])
        refine wpAnyH_take (i := 9) (oi := { dst := some 63, op := Op.unOp UnOp.not 4 (Operand.tmp 62), type := 4, pos := "law.go:192", after := #[{ on := 8, ground := Ground.data }, { on := 7, ground := Ground.guard }], guard := some (7, true) }) (v := ?d181_10xv9) rfl (by kernel_rfl) (by kernel_rfl) (by kernel_rfl) (fun _ _ _ h => h) (Or.inl ⟨by rfl, ?d181_10xy9⟩) (by assumption) ?d181_10xr9
        case d181_10xy9 => (intro w hSw; (try dsimp only at hSw); go_simp; try with_reducible rfl)
        (try simp only [Act.put])
        (try simp only [List.setIfInBounds_toArray])
        (try simp only [List.set_cons_succ])
        (try simp only [List.set_cons_zero])
        refine wpAnyH_take (i := 10) (oi := { dst := some 64, op := Op.move (Operand.tmp 63), type := 4, pos := "law.go:192", after := #[{ on := 9, ground := Ground.data }, { on := 7, ground := Ground.chain }, { on := 7, ground := Ground.guard }], guard := some (7, true) }) (v := ?d181_11xv10) rfl (by kernel_rfl) (by kernel_rfl) (by kernel_rfl) (fun _ _ _ h => h) (Or.inl ⟨by rfl, ?d181_11xy10⟩) (by assumption) ?d181_11xr10
        case d181_11xy10 => (intro w hSw; (try dsimp only at hSw); go_simp; try with_reducible rfl)
        (try simp only [Act.put])
        (try simp only [List.setIfInBounds_toArray])
        (try simp only [List.set_cons_succ])
        (try simp only [List.set_cons_zero])
        refine wpAnyH_take (i := 11) (oi := { dst := some 65, op := Op.load 49 (Operand.tmp 5), type := 49, pos := "law.go:192", after := #[{ on := 10, ground := Ground.guard }], guard := some (10, false) }) (v := ?d181_12xv11) rfl (by kernel_rfl) (by kernel_rfl) (by kernel_rfl) (fun _ _ _ h => h) (Or.inl ⟨by rfl, ?d181_12xy11⟩) (by assumption) ?d181_12xr11
        case d181_12xy11 => (intro w hSw; (try dsimp only at hSw); go_simp; try with_reducible rfl)
        (try simp only [Act.put])
        (try simp only [List.setIfInBounds_toArray])
        (try simp only [List.set_cons_succ])
        (try simp only [List.set_cons_zero])
        refine wpAnyH_take (i := 13) (oi := { dst := some 67, op := Op.load 66 (Operand.tmp 3), type := 66, pos := "law.go:192", after := #[{ on := 10, ground := Ground.guard }], guard := some (10, false) }) (v := ?d181_13xv13) rfl (by kernel_rfl) (by kernel_rfl) (by kernel_rfl) (fun _ _ _ h => h) (Or.inl ⟨by rfl, ?d181_13xy13⟩) (by assumption) ?d181_13xr13
        case d181_13xy13 => (intro w hSw; (try dsimp only at hSw); go_simp; try with_reducible rfl)
        (try simp only [Act.put])
        (try simp only [List.setIfInBounds_toArray])
        (try simp only [List.set_cons_succ])
        (try simp only [List.set_cons_zero])
        refine wpAnyH_ready (rs := [12]) (by kernel_rfl) (by simp) ?_
        refine AllReadyH.cons (o := { dst := some 66, op := Op.call { callee := Callee.value (Operand.func 27), args := #[Operand.tmp 65], argTypes := #[49] }, type := 66, pos := "law.go:192", after := #[{ on := 11, ground := Ground.data }, { on := 10, ground := Ground.chain }, { on := 10, ground := Ground.guard }], guard := some (10, false) }) rfl (fun K hK => ?_) AllReadyH.nil
        go_simp
        go_at_call 27
        refine (PU.out _).mono ?_
        rintro e v181 ⟨rfl, hb⟩
        replace B2 := Lib.hid (B2.out.below (hb))
        replace B3 := Lib.hid (B3.out.below (hb))
        replace HG := Lib.hid (HG.out.below (hb))
        replace X5 := Lib.hid (X5.out.below (hb))
        replace Z9 := Lib.hid (Z9.out.below (hb))
        replace BB := Lib.hid (BB.out.trans ((hb).mono BB.out.size))
        clear hb
        go_simp
        refine hK.out _ _ ?_ (fun hHeld => ?_)
        · exact ⟨(B2.out.cell 0), (B2.out.cell 1), (B2.out.cell 2), (B2.out.cell 3), (B2.out.cell 4), (B2.out.cell 5), (B3.out.cell 0), (B3.out.cell 1), (B3.out.cell 2), (B3.out.cell 3), (B3.out.cell 4), (B3.out.cell 5), (B3.out.cell 6), (B3.out.cell 7), (B3.out.cell 8), (X5.out.cell 0), (X5.out.cell 1), (X5.out.cell 2), (X5.out.cell 3), (X5.out.cell 4), (X5.out.cell 5), (Z9.out.cell 0), (Z9.out.cell 1), (Z9.out.cell 2), (Z9.out.cell 3), (Z9.out.cell 4), (Z9.out.cell 5)⟩
        clear hK K
        (try simp only [Act.put])
        (try simp only [List.setIfInBounds_toArray])
        (try simp only [List.set_cons_succ])
        (try simp only [List.set_cons_zero])
        refine wpAnyH_take (i := 14) (oi := { dst := some 68, op := Op.binOp BinOp.eql 66 (Operand.tmp 66) (Operand.tmp 67) 66, type := 4, pos := "law.go:192", after := #[{ on := 12, ground := Ground.data }, { on := 13, ground := Ground.data }, { on := 10, ground := Ground.guard }], guard := some (10, false) }) (v := ?d182_14xv14) rfl (by kernel_rfl) (by kernel_rfl) (by kernel_rfl) (fun _ _ _ h => h) (Or.inl ⟨by rfl, ?d182_14xy14⟩) (by assumption) ?d182_14xr14
        case d182_14xy14 => (intro w hSw; (try dsimp only at hSw); go_simp; try with_reducible rfl)
        (try simp only [Act.put])
        (try simp only [List.setIfInBounds_toArray])
        (try simp only [List.set_cons_succ])
        (try simp only [List.set_cons_zero])
        refine wpAnyH_take (i := 15) (oi := { dst := some 69, op := Op.pick (Operand.tmp 64) (Operand.const (Value.bool true)) (Operand.tmp 68), type := 4, pos := "law.go:192", after := #[{ on := 10, ground := Ground.data }, { on := 14, ground := Ground.data }, { on := 7, ground := Ground.guard }], guard := some (7, true) }) (v := ?d182_15xv15) rfl (by kernel_rfl) (by kernel_rfl) (by kernel_rfl) (fun _ _ _ h => h) (Or.inl ⟨by rfl, ?d182_15xy15⟩) (by assumption) ?d182_15xr15
        case d182_15xy15 => (intro w hSw; (try dsimp only at hSw); go_simp; try with_reducible rfl)
        (try simp only [Act.put])
        (try simp only [List.setIfInBounds_toArray])
        (try simp only [List.set_cons_succ])
        (try simp only [List.set_cons_zero])
        refine wpAnyH_take (i := 16) (oi := { dst := some 70, op := Op.pick (Operand.tmp 61) (Operand.tmp 69) (Operand.const (Value.bool false)), type := 4, pos := "law.go:192", after := #[{ on := 7, ground := Ground.data }, { on := 15, ground := Ground.data }], guard := none }) (v := ?d182_16xv16) rfl (by kernel_rfl) (by kernel_rfl) (by kernel_rfl) (fun _ _ _ h => h) (Or.inl ⟨by rfl, ?d182_16xy16⟩) (by assumption) ?d182_16xr16
        case d182_16xy16 => (intro w hSw; (try dsimp only at hSw); go_simp; try with_reducible rfl)
        (try simp only [Act.put])
        (try simp only [List.setIfInBounds_toArray])
        (try simp only [List.set_cons_succ])
        (try simp only [List.set_cons_zero])
        refine wpAnyH_take (i := 17) (oi := { dst := some 71, op := Op.move (Operand.tmp 70), type := 4, pos := "law.go:192", after := #[{ on := 16, ground := Ground.data }, { on := 12, ground := Ground.chain }], guard := none }) (v := ?d182_17xv17) rfl (by kernel_rfl) (by kernel_rfl) (by kernel_rfl) (fun _ _ _ h => h) (Or.inl ⟨by rfl, ?d182_17xy17⟩) (by assumption) ?d182_17xr17
        case d182_17xy17 => (intro w hSw; (try dsimp only at hSw); go_simp; try with_reducible rfl)
        (try simp only [Act.put])
        (try simp only [List.setIfInBounds_toArray])
        (try simp only [List.set_cons_succ])
        (try simp only [List.set_cons_zero])
        refine wpAnyH_ready (rs := [18]) (by kernel_rfl) (by simp) ?_
        refine AllReadyH.cons (o := { dst := some 72, op := Op.call { callee := Callee.value (Operand.func 11), args := #[], argTypes := #[] }, type := 4, pos := "law.go:192", after := #[{ on := 17, ground := Ground.chain }, { on := 17, ground := Ground.guard }], guard := some (17, true) }) rfl (fun K hK => ?_) AllReadyH.nil
        go_simp
        go_at_call 11
        refine (awake_any _ HG.out).mono ?_
        rintro e v182 ⟨rfl, hb⟩
        replace B2 := Lib.hid (B2.out.below (hb))
        replace B3 := Lib.hid (B3.out.below (hb))
        replace HG := Lib.hid (HG.out.below (hb))
        replace X5 := Lib.hid (X5.out.below (hb))
        replace Z9 := Lib.hid (Z9.out.below (hb))
        replace BB := Lib.hid (BB.out.trans ((hb).mono BB.out.size))
        clear hb
        go_simp
        refine hK.out _ _ ?_ (fun hHeld => ?_)
        · exact ⟨(B2.out.cell 0), (B2.out.cell 1), (B2.out.cell 2), (B2.out.cell 3), (B2.out.cell 4), (B2.out.cell 5), (B3.out.cell 0), (B3.out.cell 1), (B3.out.cell 2), (B3.out.cell 3), (B3.out.cell 4), (B3.out.cell 5), (B3.out.cell 6), (B3.out.cell 7), (B3.out.cell 8), (X5.out.cell 0), (X5.out.cell 1), (X5.out.cell 2), (X5.out.cell 3), (X5.out.cell 4), (X5.out.cell 5), (Z9.out.cell 0), (Z9.out.cell 1), (Z9.out.cell 2), (Z9.out.cell 3), (Z9.out.cell 4), (Z9.out.cell 5)⟩
        clear hK K
        (try simp only [Act.put])
        (try simp only [List.setIfInBounds_toArray])
        (try simp only [List.set_cons_succ])
        (try simp only [List.set_cons_zero])
        refine wpAnyH_take (i := 19) (oi := { dst := some 73, op := Op.pick (Operand.tmp 71) (Operand.tmp 72) (Operand.const (Value.bool false)), type := 4, pos := "law.go:192", after := #[{ on := 17, ground := Ground.data }, { on := 18, ground := Ground.data }], guard := none }) (v := ?d183_18xv19) rfl (by kernel_rfl) (by kernel_rfl) (by kernel_rfl) (fun _ _ _ h => h) (Or.inl ⟨by rfl, ?d183_18xy19⟩) (by assumption) ?d183_18xr19
        case d183_18xy19 => (intro w hSw; (try dsimp only at hSw); go_simp; try with_reducible rfl)
        (try simp only [Act.put])
        (try simp only [List.setIfInBounds_toArray])
        (try simp only [List.set_cons_succ])
        (try simp only [List.set_cons_zero])
        refine wpAnyH_ready (rs := [20]) (by kernel_rfl) (by simp) ?_
        refine AllReadyH.cons (o := { dst := some 4, op := Op.assign (Operand.tmp 73), type := 4, pos := "law.go:192", after := #[{ on := 19, ground := Ground.data }, { on := 18, ground := Ground.chain }, { on := 0, ground := Ground.phase }, { on := 1, ground := Ground.phase }, { on := 2, ground := Ground.phase }, { on := 3, ground := Ground.phase }, { on := 4, ground := Ground.phase }, { on := 5, ground := Ground.phase }, { on := 6, ground := Ground.phase }, { on := 7, ground := Ground.phase }, { on := 8, ground := Ground.phase }, { on := 9, ground := Ground.phase }, { on := 10, ground := Ground.phase }, { on := 11, ground := Ground.phase }, { on := 12, ground := Ground.phase }, { on := 13, ground := Ground.phase }, { on := 14, ground := Ground.phase }, { on := 15, ground := Ground.phase }, { on := 16, ground := Ground.phase }, { on := 17, ground := Ground.phase }, { on := 18, ground := Ground.phase }, { on := 19, ground := Ground.phase }], guard := none }) rfl (fun K hK => ?_) AllReadyH.nil
        go_simp
        refine hK.out _ _ ?_ (fun hHeld => ?_)
        · exact ⟨(B2.out.cell 0), (B2.out.cell 1), (B2.out.cell 2), (B2.out.cell 3), (B2.out.cell 4), (B2.out.cell 5), (B3.out.cell 0), (B3.out.cell 1), (B3.out.cell 2), (B3.out.cell 3), (B3.out.cell 4), (B3.out.cell 5), (B3.out.cell 6), (B3.out.cell 7), (B3.out.cell 8), (X5.out.cell 0), (X5.out.cell 1), (X5.out.cell 2), (X5.out.cell 3), (X5.out.cell 4), (X5.out.cell 5), (Z9.out.cell 0), (Z9.out.cell 1), (Z9.out.cell 2), (Z9.out.cell 3), (Z9.out.cell 4), (Z9.out.cell 5)⟩
        clear hK K
        (try simp only [Act.put])
        (try simp only [List.setIfInBounds_toArray])
        (try simp only [List.set_cons_succ])
        (try simp only [List.set_cons_zero])
        refine wpAnyH_done (by kernel_rfl) ?_ _
        go_wp2_with fail
        go_ret
        exact ⟨rfl, BB.out⟩
      | false =>
        replace B2 := Lib.hid (B2.out.below ((Below.refl _ _).drew))
        replace B3 := Lib.hid (B3.out.below ((Below.refl _ _).drew))
        replace HG := Lib.hid (HG.out.below ((Below.refl _ _).drew))
        replace X5 := Lib.hid (X5.out.below ((Below.refl _ _).drew))
        replace Z9 := Lib.hid (Z9.out.below ((Below.refl _ _).drew))
        replace BB := Lib.hid (BB.out.trans (((Below.refl _ _).drew).mono BB.out.size))
        refine wp_region_held_drew (S := fun w' => w'.cell? ⟨q, 0, none⟩ = some (.int .i64 a) ∧ w'.cell? ⟨q, 1, none⟩ = some (.int .i64 v) ∧ w'.cell? ⟨q, 2, none⟩ = some (.int .u32 n) ∧ w'.cell? ⟨q, 3, none⟩ = some (.int .u32 0) ∧ w'.cell? ⟨q, 4, none⟩ = some (.int .i64 z) ∧ w'.cell? ⟨q, 5, none⟩ = some (.bool b) ∧ w'.cell? ⟨q + 1, 0, none⟩ = some (.int .i64 x0) ∧ w'.cell? ⟨q + 1, 1, none⟩ = some (.int .u32 x1) ∧ w'.cell? ⟨q + 1, 2, none⟩ = some (.int .u32 x2) ∧ w'.cell? ⟨q + 1, 3, none⟩ = some (.int .i64 y0) ∧ w'.cell? ⟨q + 1, 4, none⟩ = some (.int .u32 y1) ∧ w'.cell? ⟨q + 1, 5, none⟩ = some (.int .u32 y2) ∧ w'.cell? ⟨q + 1, 6, none⟩ = some (.int .i64 z0) ∧ w'.cell? ⟨q + 1, 7, none⟩ = some (.int .u32 z1) ∧ w'.cell? ⟨q + 1, 8, none⟩ = some (.int .u32 z2) ∧ w'.cell? ⟨q5, 0, none⟩ = some (.int .i64 u0) ∧ w'.cell? ⟨q5, 1, none⟩ = some (.int .i64 u1) ∧ w'.cell? ⟨q5, 2, none⟩ = some (.int .u32 u2) ∧ w'.cell? ⟨q5, 3, none⟩ = some (.int .u32 u3) ∧ w'.cell? ⟨q5, 4, none⟩ = some (.int .i64 u4) ∧ w'.cell? ⟨q5, 5, none⟩ = some (.bool u5) ∧ w'.cell? ⟨q9, 0, none⟩ = some (.int .i64 0) ∧ w'.cell? ⟨q9, 1, none⟩ = some (.int .i64 0) ∧ w'.cell? ⟨q9, 2, none⟩ = some (.int .u32 0) ∧ w'.cell? ⟨q9, 3, none⟩ = some (.int .u32 0) ∧ w'.cell? ⟨q9, 4, none⟩ = some (.int .i64 0) ∧ w'.cell? ⟨q9, 5, none⟩ = some (.bool false)) (by kernel_rfl) ⟨(B2.out.cell 0), (B2.out.cell 1), (B2.out.cell 2), (B2.out.cell 3), (B2.out.cell 4), (B2.out.cell 5), (B3.out.cell 0), (B3.out.cell 1), (B3.out.cell 2), (B3.out.cell 3), (B3.out.cell 4), (B3.out.cell 5), (B3.out.cell 6), (B3.out.cell 7), (B3.out.cell 8), (X5.out.cell 0), (X5.out.cell 1), (X5.out.cell 2), (X5.out.cell 3), (X5.out.cell 4), (X5.out.cell 5), (Z9.out.cell 0), (Z9.out.cell 1), (Z9.out.cell 2), (Z9.out.cell 3), (Z9.out.cell 4), (Z9.out.cell 5)⟩ (fun hHeld => ?_)
        generalize World.drew W5 = V210 at *
        refine wpAnyH_take (i := 0) (oi := { dst := some 54, op := Op.move (Operand.tmp 10), type := 4, pos := "law.go:192", after := #[], guard := none }) (v := ?d211_1xv0) rfl (by kernel_rfl) (by kernel_rfl) (by kernel_rfl) (fun _ _ _ h => h) (Or.inl ⟨by rfl, ?d211_1xy0⟩) (by assumption) ?d211_1xr0
        case d211_1xy0 => (intro w hSw; (try dsimp only at hSw); go_simp; try with_reducible rfl)
        (try simp only [Act.put])
        (try simp only [List.setIfInBounds_toArray])
        (try simp only [List.set_cons_succ])
        (try simp only [List.set_cons_zero])
        refine wpAnyH_take (i := 1) (oi := { dst := some 55, op := Op.unOp UnOp.not 4 (Operand.tmp 54), type := 4, pos := "law.go:192", after := #[{ on := 0, ground := Ground.data }], guard := none }) (v := ?d211_2xv1) rfl (by kernel_rfl) (by kernel_rfl) (by kernel_rfl) (fun _ _ _ h => h) (Or.inl ⟨by rfl, ?d211_2xy1⟩) (by assumption) ?d211_2xr1
        case d211_2xy1 => (intro w hSw; (try dsimp only at hSw); go_simp; try with_reducible rfl)
        (try simp only [Act.put])
        (try simp only [List.setIfInBounds_toArray])
        (try simp only [List.set_cons_succ])
        (try simp only [List.set_cons_zero])
        refine wpAnyH_take (i := 2) (oi := { dst := some 56, op := Op.move (Operand.tmp 55), type := 4, pos := "law.go:192", after := #[{ on := 1, ground := Ground.data }], guard := none }) (v := ?d211_3xv2) rfl (by kernel_rfl) (by kernel_rfl) (by kernel_rfl) (fun _ _ _ h => h) (Or.inl ⟨by rfl, ?d211_3xy2⟩) (by assumption) ?d211_3xr2
        case d211_3xy2 => (intro w hSw; (try dsimp only at hSw); go_simp; try with_reducible rfl)
        (try simp only [Act.put])
        (try simp only [List.setIfInBounds_toArray])
        (try simp only [List.set_cons_succ])
        (try simp only [List.set_cons_zero])
        refine wpAnyH_take (i := 3) (oi := { dst := some 57, op := Op.load 49 (Operand.tmp 9), type := 49, pos := "law.go:192", after := #[{ on := 2, ground := Ground.guard }], guard := some (2, false) }) (v := undef) rfl (by kernel_rfl) (by kernel_rfl) (by kernel_rfl) (fun _ _ _ h => h) (Or.inr ⟨by kernel_rfl, rfl⟩) (by assumption) ?d211_4xr3
        (try simp only [Act.put])
        (try simp only [List.setIfInBounds_toArray])
        (try simp only [List.set_cons_succ])
        (try simp only [List.set_cons_zero])
        refine wpAnyH_take (i := 4) (oi := { dst := some 58, op := Op.load 49 (Operand.tmp 2), type := 49, pos := "law.go:192", after := #[{ on := 2, ground := Ground.guard }], guard := some (2, false) }) (v := undef) rfl (by kernel_rfl) (by kernel_rfl) (by kernel_rfl) (fun _ _ _ h => h) (Or.inr ⟨by kernel_rfl, rfl⟩) (by assumption) ?d211_5xr4
        (try simp only [Act.put])
        (try simp only [List.setIfInBounds_toArray])
        (try simp only [List.set_cons_succ])
        (try simp only [List.set_cons_zero])
        refine wpAnyH_take (i := 5) (oi := { dst := some 59, op := Op.binOp BinOp.eql 49 (Operand.tmp 57) (Operand.tmp 58) 49, type := 4, pos := "law.go:192", after := #[{ on := 3, ground := Ground.data }, { on := 4, ground := Ground.data }, { on := 2, ground := Ground.guard }], guard := some (2, false) }) (v := undef) rfl (by kernel_rfl) (by kernel_rfl) (by kernel_rfl) (fun _ _ _ h => h) (Or.inr ⟨by kernel_rfl, rfl⟩) (by assumption) ?d211_6xr5
        (try simp only [Act.put])
        (try simp only [List.setIfInBounds_toArray])
        (try simp only [List.set_cons_succ])
        (try simp only [List.set_cons_zero])
        refine wpAnyH_take (i := 6) (oi := { dst := some 60, op := Op.pick (Operand.tmp 56) (Operand.const (Value.bool true)) (Operand.tmp 59), type := 4, pos := "law.go:192", after := #[{ on := 2, ground := Ground.data }, { on := 5, ground := Ground.data }], guard := none }) (v := ?d211_7xv6) rfl (by kernel_rfl) (by kernel_rfl) (by kernel_rfl) (fun _ _ _ h => h) (Or.inl ⟨by rfl, ?d211_7xy6⟩) (by assumption) ?d211_7xr6
        case d211_7xy6 => (intro w hSw; (try dsimp only at hSw); go_simp; try with_reducible rfl)
        (try simp only [Act.put])
        (try simp only [List.setIfInBounds_toArray])
        (try simp only [List.set_cons_succ])
        (try simp only [List.set_cons_zero])
        refine wpAnyH_take (i := 7) (oi := { dst := some 61, op := Op.move (Operand.tmp 60), type := 4, pos := "law.go:192", after := #[{ on := 6, ground := Ground.data }, { on := 2, ground := Ground.chain }], guard := none }) (v := ?d211_8xv7) rfl (by kernel_rfl) (by kernel_rfl) (by kernel_rfl) (fun _ _ _ h => h) (Or.inl ⟨by rfl, ?d211_8xy7⟩) (by assumption) ?d211_8xr7
        case d211_8xy7 => (intro w hSw; (try dsimp only at hSw); go_simp; try with_reducible rfl)
        (try simp only [Act.put])
        (try simp only [List.setIfInBounds_toArray])
        (try simp only [List.set_cons_succ])
        (try simp only [List.set_cons_zero])
        refine wpAnyH_take (i := 8) (oi := { dst := some 62, op := Op.move (Operand.tmp 6), type := 4, pos := "law.go:192", after := #[{ on := 7, ground := Ground.guard }], guard := some (7, true) }) (v := ?d211_9xv8) rfl (by kernel_rfl) (by kernel_rfl) (by kernel_rfl) (fun _ _ _ h => h) (Or.inl ⟨by rfl, ?d211_9xy8⟩) (by assumption) ?d211_9xr8
        case d211_9xy8 => (intro w hSw; (try dsimp only at hSw); go_simp; try with_reducible rfl)
        (try simp only [Act.put])
        (try simp only [List.setIfInBounds_toArray])
        (try simp only [List.set_cons_succ])
        (try simp only [List.set_cons_zero])
        refine wpAnyH_take (i := 9) (oi := { dst := some 63, op := Op.unOp UnOp.not 4 (Operand.tmp 62), type := 4, pos := "law.go:192", after := #[{ on := 8, ground := Ground.data }, { on := 7, ground := Ground.guard }], guard := some (7, true) }) (v := ?d211_10xv9) rfl (by kernel_rfl) (by kernel_rfl) (by kernel_rfl) (fun _ _ _ h => h) (Or.inl ⟨by rfl, ?d211_10xy9⟩) (by assumption) ?d211_10xr9
        case d211_10xy9 => (intro w hSw; (try dsimp only at hSw); go_simp; try with_reducible rfl)
        (try simp only [Act.put])
        (try simp only [List.setIfInBounds_toArray])
        (try simp only [List.set_cons_succ])
        (try simp only [List.set_cons_zero])
        refine wpAnyH_take (i := 10) (oi := { dst := some 64, op := Op.move (Operand.tmp 63), type := 4, pos := "law.go:192", after := #[{ on := 9, ground := Ground.data }, { on := 7, ground := Ground.chain }, { on := 7, ground := Ground.guard }], guard := some (7, true) }) (v := ?d211_11xv10) rfl (by kernel_rfl) (by kernel_rfl) (by kernel_rfl) (fun _ _ _ h => h) (Or.inl ⟨by rfl, ?d211_11xy10⟩) (by assumption) ?d211_11xr10
        case d211_11xy10 => (intro w hSw; (try dsimp only at hSw); go_simp; try with_reducible rfl)
        (try simp only [Act.put])
        (try simp only [List.setIfInBounds_toArray])
        (try simp only [List.set_cons_succ])
        (try simp only [List.set_cons_zero])
        refine wpAnyH_take (i := 11) (oi := { dst := some 65, op := Op.load 49 (Operand.tmp 5), type := 49, pos := "law.go:192", after := #[{ on := 10, ground := Ground.guard }], guard := some (10, false) }) (v := undef) rfl (by kernel_rfl) (by kernel_rfl) (by kernel_rfl) (fun _ _ _ h => h) (Or.inr ⟨by kernel_rfl, rfl⟩) (by assumption) ?d211_12xr11
        (try simp only [Act.put])
        (try simp only [List.setIfInBounds_toArray])
        (try simp only [List.set_cons_succ])
        (try simp only [List.set_cons_zero])
        refine wpAnyH_take (i := 12) (oi := { dst := some 66, op := Op.call { callee := Callee.value (Operand.func 27), args := #[Operand.tmp 65], argTypes := #[49] }, type := 66, pos := "law.go:192", after := #[{ on := 11, ground := Ground.data }, { on := 10, ground := Ground.chain }, { on := 10, ground := Ground.guard }], guard := some (10, false) }) (v := undef) rfl (by kernel_rfl) (by kernel_rfl) (by kernel_rfl) (fun _ _ _ h => h) (Or.inr ⟨by kernel_rfl, rfl⟩) (by assumption) ?d211_13xr12
        (try simp only [Act.put])
        (try simp only [List.setIfInBounds_toArray])
        (try simp only [List.set_cons_succ])
        (try simp only [List.set_cons_zero])
        refine wpAnyH_take (i := 13) (oi := { dst := some 67, op := Op.load 66 (Operand.tmp 3), type := 66, pos := "law.go:192", after := #[{ on := 10, ground := Ground.guard }], guard := some (10, false) }) (v := undef) rfl (by kernel_rfl) (by kernel_rfl) (by kernel_rfl) (fun _ _ _ h => h) (Or.inr ⟨by kernel_rfl, rfl⟩) (by assumption) ?d211_14xr13
        (try simp only [Act.put])
        (try simp only [List.setIfInBounds_toArray])
        (try simp only [List.set_cons_succ])
        (try simp only [List.set_cons_zero])
        refine wpAnyH_take (i := 14) (oi := { dst := some 68, op := Op.binOp BinOp.eql 66 (Operand.tmp 66) (Operand.tmp 67) 66, type := 4, pos := "law.go:192", after := #[{ on := 12, ground := Ground.data }, { on := 13, ground := Ground.data }, { on := 10, ground := Ground.guard }], guard := some (10, false) }) (v := undef) rfl (by kernel_rfl) (by kernel_rfl) (by kernel_rfl) (fun _ _ _ h => h) (Or.inr ⟨by kernel_rfl, rfl⟩) (by assumption) ?d211_15xr14
        (try simp only [Act.put])
        (try simp only [List.setIfInBounds_toArray])
        (try simp only [List.set_cons_succ])
        (try simp only [List.set_cons_zero])
        refine wpAnyH_take (i := 15) (oi := { dst := some 69, op := Op.pick (Operand.tmp 64) (Operand.const (Value.bool true)) (Operand.tmp 68), type := 4, pos := "law.go:192", after := #[{ on := 10, ground := Ground.data }, { on := 14, ground := Ground.data }, { on := 7, ground := Ground.guard }], guard := some (7, true) }) (v := ?d211_16xv15) rfl (by kernel_rfl) (by kernel_rfl) (by kernel_rfl) (fun _ _ _ h => h) (Or.inl ⟨by rfl, ?d211_16xy15⟩) (by assumption) ?d211_16xr15
        case d211_16xy15 => (intro w hSw; (try dsimp only at hSw); go_simp; try with_reducible rfl)
        (try simp only [Act.put])
        (try simp only [List.setIfInBounds_toArray])
        (try simp only [List.set_cons_succ])
        (try simp only [List.set_cons_zero])
        refine wpAnyH_take (i := 16) (oi := { dst := some 70, op := Op.pick (Operand.tmp 61) (Operand.tmp 69) (Operand.const (Value.bool false)), type := 4, pos := "law.go:192", after := #[{ on := 7, ground := Ground.data }, { on := 15, ground := Ground.data }], guard := none }) (v := ?d211_17xv16) rfl (by kernel_rfl) (by kernel_rfl) (by kernel_rfl) (fun _ _ _ h => h) (Or.inl ⟨by rfl, ?d211_17xy16⟩) (by assumption) ?d211_17xr16
        case d211_17xy16 => (intro w hSw; (try dsimp only at hSw); go_simp; try with_reducible rfl)
        (try simp only [Act.put])
        (try simp only [List.setIfInBounds_toArray])
        (try simp only [List.set_cons_succ])
        (try simp only [List.set_cons_zero])
        refine wpAnyH_take (i := 17) (oi := { dst := some 71, op := Op.move (Operand.tmp 70), type := 4, pos := "law.go:192", after := #[{ on := 16, ground := Ground.data }, { on := 12, ground := Ground.chain }], guard := none }) (v := ?d211_18xv17) rfl (by kernel_rfl) (by kernel_rfl) (by kernel_rfl) (fun _ _ _ h => h) (Or.inl ⟨by rfl, ?d211_18xy17⟩) (by assumption) ?d211_18xr17
        case d211_18xy17 => (intro w hSw; (try dsimp only at hSw); go_simp; try with_reducible rfl)
        (try simp only [Act.put])
        (try simp only [List.setIfInBounds_toArray])
        (try simp only [List.set_cons_succ])
        (try simp only [List.set_cons_zero])
        refine wpAnyH_ready (rs := [18]) (by kernel_rfl) (by simp) ?_
        refine AllReadyH.cons (o := { dst := some 72, op := Op.call { callee := Callee.value (Operand.func 11), args := #[], argTypes := #[] }, type := 4, pos := "law.go:192", after := #[{ on := 17, ground := Ground.chain }, { on := 17, ground := Ground.guard }], guard := some (17, true) }) rfl (fun K hK => ?_) AllReadyH.nil
        go_simp
        go_at_call 11
        refine (awake_any _ HG.out).mono ?_
        rintro e v211 ⟨rfl, hb⟩
        replace B2 := Lib.hid (B2.out.below (hb))
        replace B3 := Lib.hid (B3.out.below (hb))
        replace HG := Lib.hid (HG.out.below (hb))
        replace X5 := Lib.hid (X5.out.below (hb))
        replace Z9 := Lib.hid (Z9.out.below (hb))
        replace BB := Lib.hid (BB.out.trans ((hb).mono BB.out.size))
        clear hb
        go_simp
        refine hK.out _ _ ?_ (fun hHeld => ?_)
        · exact ⟨(B2.out.cell 0), (B2.out.cell 1), (B2.out.cell 2), (B2.out.cell 3), (B2.out.cell 4), (B2.out.cell 5), (B3.out.cell 0), (B3.out.cell 1), (B3.out.cell 2), (B3.out.cell 3), (B3.out.cell 4), (B3.out.cell 5), (B3.out.cell 6), (B3.out.cell 7), (B3.out.cell 8), (X5.out.cell 0), (X5.out.cell 1), (X5.out.cell 2), (X5.out.cell 3), (X5.out.cell 4), (X5.out.cell 5), (Z9.out.cell 0), (Z9.out.cell 1), (Z9.out.cell 2), (Z9.out.cell 3), (Z9.out.cell 4), (Z9.out.cell 5)⟩
        clear hK K
        (try simp only [Act.put])
        (try simp only [List.setIfInBounds_toArray])
        (try simp only [List.set_cons_succ])
        (try simp only [List.set_cons_zero])
        refine wpAnyH_take (i := 19) (oi := { dst := some 73, op := Op.pick (Operand.tmp 71) (Operand.tmp 72) (Operand.const (Value.bool false)), type := 4, pos := "law.go:192", after := #[{ on := 17, ground := Ground.data }, { on := 18, ground := Ground.data }], guard := none }) (v := ?d212_19xv19) rfl (by kernel_rfl) (by kernel_rfl) (by kernel_rfl) (fun _ _ _ h => h) (Or.inl ⟨by rfl, ?d212_19xy19⟩) (by assumption) ?d212_19xr19
        case d212_19xy19 => (intro w hSw; (try dsimp only at hSw); go_simp; try with_reducible rfl)
        (try simp only [Act.put])
        (try simp only [List.setIfInBounds_toArray])
        (try simp only [List.set_cons_succ])
        (try simp only [List.set_cons_zero])
        refine wpAnyH_ready (rs := [20]) (by kernel_rfl) (by simp) ?_
        refine AllReadyH.cons (o := { dst := some 4, op := Op.assign (Operand.tmp 73), type := 4, pos := "law.go:192", after := #[{ on := 19, ground := Ground.data }, { on := 18, ground := Ground.chain }, { on := 0, ground := Ground.phase }, { on := 1, ground := Ground.phase }, { on := 2, ground := Ground.phase }, { on := 3, ground := Ground.phase }, { on := 4, ground := Ground.phase }, { on := 5, ground := Ground.phase }, { on := 6, ground := Ground.phase }, { on := 7, ground := Ground.phase }, { on := 8, ground := Ground.phase }, { on := 9, ground := Ground.phase }, { on := 10, ground := Ground.phase }, { on := 11, ground := Ground.phase }, { on := 12, ground := Ground.phase }, { on := 13, ground := Ground.phase }, { on := 14, ground := Ground.phase }, { on := 15, ground := Ground.phase }, { on := 16, ground := Ground.phase }, { on := 17, ground := Ground.phase }, { on := 18, ground := Ground.phase }, { on := 19, ground := Ground.phase }], guard := none }) rfl (fun K hK => ?_) AllReadyH.nil
        go_simp
        refine hK.out _ _ ?_ (fun hHeld => ?_)
        · exact ⟨(B2.out.cell 0), (B2.out.cell 1), (B2.out.cell 2), (B2.out.cell 3), (B2.out.cell 4), (B2.out.cell 5), (B3.out.cell 0), (B3.out.cell 1), (B3.out.cell 2), (B3.out.cell 3), (B3.out.cell 4), (B3.out.cell 5), (B3.out.cell 6), (B3.out.cell 7), (B3.out.cell 8), (X5.out.cell 0), (X5.out.cell 1), (X5.out.cell 2), (X5.out.cell 3), (X5.out.cell 4), (X5.out.cell 5), (Z9.out.cell 0), (Z9.out.cell 1), (Z9.out.cell 2), (Z9.out.cell 3), (Z9.out.cell 4), (Z9.out.cell 5)⟩
        clear hK K
        (try simp only [Act.put])
        (try simp only [List.setIfInBounds_toArray])
        (try simp only [List.set_cons_succ])
        (try simp only [List.set_cons_zero])
        refine wpAnyH_done (by kernel_rfl) ?_ _
        go_wp2_with fail
        go_ret
        exact ⟨rfl, BB.out⟩
end Go.Proofs.YtfegeahieajmkaaDoor
