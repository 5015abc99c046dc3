/- The reference's Swap. -/
import Derived.Test.YtmophafgmimhcaaMdIs
namespace Go.Proofs.Ytmophafgmimhcaa
open Go.ChangeShapes Go.WideShapes Go.ChangeAt Go.RowKit Go.Maps
set_option maxRecDepth 100000 in
set_option maxHeartbeats 3200000 in
theorem rswap_any (mv : Value) (M : List Wd) (v : Value) (L : List En) (w : World) (hm : WS w mv M) (hv : ES w v L) (hl : L.length ≤ 1000) (hml : M.length ≤ 1000) (hin : hasL M L = true) : Calls Try.prog 17 #[mv, v] w fun e w' => ∃ u, e = .returned (.tuple #[u, .bool (rholds M L)]) ∧ WS w' u (if rholds M L then upd M L else M) ∧ Below w.heap.size w w' := by
  have HM := Lib.hid hm
  have HV := Lib.hid hv
  obtain ⟨a1, cp, rfl, hcap⟩ := hv.form
  obtain ⟨ma, mc, rfl, _⟩ := hm.form
  clear hm hv
  obtain ⟨n, hn⟩ : ∃ n, L.length = n := ⟨_, rfl⟩
  obtain ⟨mn, hmn⟩ : ∃ n, M.length = n := ⟨_, rfl⟩
  rw [hn] at HV hl hcap ⊢
  rw [hmn] at HM hml ⊢
  have HN := Lib.hid hn
  have HMN := Lib.hid hmn
  clear hn hmn
  have HAS : Hid (∀ i, i < n → 0 ≤ (L[i]!).1 ∧ (L[i]!).1 < mn) := Lib.hid (fun i hi => by
    unfold hasL at hin
    rw [List.all_eq_true] at hin
    have := hin _ (mem_at (by rw [HN.out]; exact hi))
    unfold hasM at this
    rw [decide_eq_true_iff, HMN.out] at this
    exact this)
  clear hin
  have HO := Lib.hid (rholds_any _ M _ L w HM.out HV.out (by rw [HN.out]; exact hl))
  obtain ⟨ho, hho⟩ : ∃ c, rholds M L = c := ⟨_, rfl⟩
  rw [hho] at HO ⊢
  clear hho
  go_enter Try.func17, Try.ntmps17
  go_wp2_with fail
  refine HO.out.mono ?_
  rintro e w1 ⟨rfl, hb⟩
  have BB := Lib.hid hb
  clear hb HO
  cases ho with
  | false =>
    go_wp2_with fail
    go_ret2
    exact ⟨_, rfl, HM.out.below BB.out, BB.out⟩
  | true =>
    have hmw := Lib.hid (HM.out.below BB.out)
    go_wp2_with (first
      | (at_builtin; refine wpList_appK (w0 := w) Try.underlying22 infoW rfl (by decide) _ rfl (.tmp 13) (.tmp 14) rfl rfl BB.out (RowK.nil (E := wdE) _ _ _) rfl hmw.out (by simp; rw [HMN.out]; omega) ?_; intro v3 w3 r3 b3 g3; obtain ⟨a6, c6, e6⟩ : ∃ a c, v3 = .slice a mn c := (by obtain ⟨a, c, h, _⟩ := r3.form; exact ⟨a, c, by rw [h, List.nil_append, HMN.out]⟩); subst e6; rw [List.nil_append] at r3; have R3 := Lib.hid r3; have B3 := Lib.hid b3; clear r3 b3 g3)
      | fail)
    go_loopw [7] (fun iv wr => ∃ k : Nat, k ≤ n ∧ iv = .int .i64 k ∧ RowK wdE 43 w.heap.size wr (.slice a6 mn c6) (upd M (L.take k)) ∧ Below w.heap.size w wr) (fun iv _ => n - (intOf iv).toNat)
    case atStart => exact ⟨0, by omega, rfl, R3.out, B3.out⟩
    case round =>
      obtain ⟨k, hk, rfl, hr, hb⟩ := hrel
      replace BB := Lib.hid hb
      have R := Lib.hid hr
      clear hb hr R3 B3 hmw
      by_cases hlt : k < n
      · obtain ⟨b, off, rfl, hbl, hln, hc⟩ := HV.out.addr hlt
        obtain ⟨e0, e1, e2, e3, e4, e5⟩ := en_cells hc (by rw [hln]; exact hlt)
        clear e1 e3
        have UT := Lib.hid (upd_take M L (k := k) (by rw [HN.out]; exact hlt))
        obtain ⟨ya0, ya1⟩ := HAS.out k hlt
        clear hc hln
        obtain ⟨y, hy⟩ : ∃ y, L[k]! = y := ⟨_, rfl⟩
        rw [hy] at e0 e2 e4 e5 UT ya0 ya1
        clear hy
        obtain ⟨y0, ⟨y1, y2, y3⟩, y4, y5⟩ := y
        simp only at e0 e2 e4 e5 ya0 ya1
        obtain ⟨j, rfl⟩ : ∃ j : Nat, y0 = j := ⟨y0.toNat, by omega⟩
        unfold upd1 at UT
        simp only [Int.toNat_natCast] at UT
        have UL := Lib.hid (upd_len M (L.take k))
        rw [HMN.out] at UL
        obtain ⟨U, hU⟩ : ∃ U, upd M (L.take k) = U := ⟨_, rfl⟩
        rw [hU] at UT UL R
        clear hU
        have hjl : j < mn := by omega
        have KP : Hid (∀ W, Below w.heap.size w W → W.cell? ⟨b, off + k * 6, none⟩ = some (.int .i64 (j : Int)) ∧ W.cell? ⟨b, off + k * 6 + 4, none⟩ = some (.int .i64 y4) ∧ W.cell? ⟨b, off + k * 6 + 2, none⟩ = some (.int .u32 y2)) := Lib.hid (fun W h => ⟨(h.cell hbl).trans e0, (h.cell hbl).trans e4, (h.cell hbl).trans e2⟩)
        rw [← BB.out.cell (p := ⟨b, _, none⟩) hbl] at e5
        clear e0 e2 e4
        cases y5 with
        | false =>
          go_wp2
          go_roundw
          case rel => exact ⟨k + 1, by omega, by go_num, by rw [UT.out]; exact R.out, BB.out⟩
          case measure => simp [intOf]; omega
        | true =>
          simp only [if_true] at UT
          obtain ⟨g, rfl, hg, hgl, _⟩ := R.out.block (by omega : 0 < mn)
          go_upto_region 9 with fail
          clear e5
          have BD := Lib.hid (BB.out.drew)
          have RD := Lib.hid (R.out.below ((Below.refl _ _).drew))
          obtain ⟨p0, p4, p2⟩ := KP.out _ BD.out
          obtain ⟨r0, r1, r2⟩ := row_cells RD.out (j := j) (by rw [UL.out]; exact hjl)
          have f0 := RD.out.free (j * 3)
          have f1 := RD.out.free (j * 3 + 1)
          have f2 := RD.out.free (j * 3 + 2)
          have NS := Lib.hid (row_store RD.out (j := j) (by rw [UL.out]; exact hjl) (y4, IntKind.u32.wrap (y2 + 1), 0))
          have NB := Lib.hid (row_storeBelow RD.out BD.out (j * 3) (j * 3 + 1) (j * 3 + 2) (.int .i64 y4) (.int .u32 (IntKind.u32.wrap (y2 + 1))) (.int .u32 0))
          obtain ⟨s0, s4, s2⟩ := KP.out _ NB.out
          have j0 : (0 : Int) ≤ (j : Int) := by omega
          have j1 : (j : Int) < (mn : Int) := by omega
          refine wp_region_held_drew (S := fun w' => w'.cell? ⟨b, off + k * 6, none⟩ = some (.int .i64 (j : Int)) ∧ w'.cell? ⟨b, off + k * 6 + 4, none⟩ = some (.int .i64 y4) ∧ w'.cell? ⟨b, off + k * 6 + 2, none⟩ = some (.int .u32 y2)) (by kernel_rfl) ⟨p0, p4, p2⟩ (fun hHeld => ?_)
          generalize World.drew wr = V0 at *
          refine wpAnyH_take (i := 0) (oi := { dst := some 27, op := Op.move (Operand.tmp 6), type := 22, pos := "ref.go:45", after := #[], guard := none }) (v := ?d1_1xv0) rfl (by kernel_rfl) (by kernel_rfl) (by kernel_rfl) (fun _ _ _ h => h) (Or.inl ⟨by rfl, ?d1_1xy0⟩) (by assumption) ?d1_1xr0
          case d1_1xy0 => (intro w hSw; (try dsimp only at hSw); go_simp; try with_reducible rfl)
          (try simp only [Act.put])
          (try simp only [List.setIfInBounds_toArray])
          (try simp only [List.set_cons_succ])
          (try simp only [List.set_cons_zero])
          refine wpAnyH_take (i := 1) (oi := { dst := some 28, op := Op.move (Operand.tmp 1), type := 30, pos := "ref.go:45", after := #[], guard := none }) (v := ?d1_2xv1) rfl (by kernel_rfl) (by kernel_rfl) (by kernel_rfl) (fun _ _ _ h => h) (Or.inl ⟨by rfl, ?d1_2xy1⟩) (by assumption) ?d1_2xr1
          case d1_2xy1 => (intro w hSw; (try dsimp only at hSw); go_simp; try with_reducible rfl)
          (try simp only [Act.put])
          (try simp only [List.setIfInBounds_toArray])
          (try simp only [List.set_cons_succ])
          (try simp only [List.set_cons_zero])
          refine wpAnyH_take (i := 2) (oi := { dst := some 29, op := Op.move (Operand.tmp 7), type := 3, pos := "ref.go:45", after := #[], guard := none }) (v := ?d1_3xv2) rfl (by kernel_rfl) (by kernel_rfl) (by kernel_rfl) (fun _ _ _ h => h) (Or.inl ⟨by rfl, ?d1_3xy2⟩) (by assumption) ?d1_3xr2
          case d1_3xy2 => (intro w hSw; (try dsimp only at hSw); go_simp; try with_reducible rfl)
          (try simp only [Act.put])
          (try simp only [List.setIfInBounds_toArray])
          (try simp only [List.set_cons_succ])
          (try simp only [List.set_cons_zero])
          refine wpAnyH_take (i := 3) (oi := { dst := some 30, op := Op.indexAddr 30 (Operand.tmp 28) (Operand.tmp 29), type := 0, pos := "ref.go:45", after := #[{ on := 1, ground := Ground.data }, { on := 2, ground := Ground.data }], guard := none }) (v := ?d1_4xv3) rfl (by kernel_rfl) (by kernel_rfl) (by kernel_rfl) (fun _ _ _ h => h) (Or.inl ⟨by rfl, ?d1_4xy3⟩) (by assumption) ?d1_4xr3
          case d1_4xy3 => (intro w hSw; (try dsimp only at hSw); go_simp; try with_reducible rfl)
          (try simp only [Act.put])
          (try simp only [List.setIfInBounds_toArray])
          (try simp only [List.set_cons_succ])
          (try simp only [List.set_cons_zero])
          refine wpAnyH_take (i := 4) (oi := { dst := some 31, op := Op.fieldAddr 50 (Operand.tmp 30) 0, type := 0, pos := "ref.go:45", after := #[{ on := 3, ground := Ground.data }], guard := none }) (v := ?d1_5xv4) rfl (by kernel_rfl) (by kernel_rfl) (by kernel_rfl) (fun _ _ _ h => h) (Or.inl ⟨by rfl, ?d1_5xy4⟩) (by assumption) ?d1_5xr4
          case d1_5xy4 => (intro w hSw; (try dsimp only at hSw); go_simp; try with_reducible rfl)
          (try simp only [Act.put])
          (try simp only [List.setIfInBounds_toArray])
          (try simp only [List.set_cons_succ])
          (try simp only [List.set_cons_zero])
          refine wpAnyH_take (i := 5) (oi := { dst := some 32, op := Op.load 40 (Operand.tmp 31), type := 40, pos := "ref.go:45", after := #[{ on := 4, ground := Ground.data }], guard := none }) (v := ?d1_6xv5) rfl (by kernel_rfl) (by kernel_rfl) (by kernel_rfl) (fun _ _ _ h => h) (Or.inl ⟨by rfl, ?d1_6xy5⟩) (by assumption) ?d1_6xr5
          case d1_6xy5 => (intro w hSw; (try dsimp only at hSw); go_simp; try with_reducible rfl)
          (try simp only [Act.put])
          (try simp only [List.setIfInBounds_toArray])
          (try simp only [List.set_cons_succ])
          (try simp only [List.set_cons_zero])
          refine wpAnyH_take (i := 6) (oi := { dst := some 33, op := Op.move (Operand.tmp 1), type := 30, pos := "ref.go:45", after := #[], guard := none }) (v := ?d1_7xv6) rfl (by kernel_rfl) (by kernel_rfl) (by kernel_rfl) (fun _ _ _ h => h) (Or.inl ⟨by rfl, ?d1_7xy6⟩) (by assumption) ?d1_7xr6
          case d1_7xy6 => (intro w hSw; (try dsimp only at hSw); go_simp; try with_reducible rfl)
          (try simp only [Act.put])
          (try simp only [List.setIfInBounds_toArray])
          (try simp only [List.set_cons_succ])
          (try simp only [List.set_cons_zero])
          refine wpAnyH_take (i := 7) (oi := { dst := some 34, op := Op.move (Operand.tmp 7), type := 3, pos := "ref.go:45", after := #[], guard := none }) (v := ?d1_8xv7) rfl (by kernel_rfl) (by kernel_rfl) (by kernel_rfl) (fun _ _ _ h => h) (Or.inl ⟨by rfl, ?d1_8xy7⟩) (by assumption) ?d1_8xr7
          case d1_8xy7 => (intro w hSw; (try dsimp only at hSw); go_simp; try with_reducible rfl)
          (try simp only [Act.put])
          (try simp only [List.setIfInBounds_toArray])
          (try simp only [List.set_cons_succ])
          (try simp only [List.set_cons_zero])
          refine wpAnyH_take (i := 8) (oi := { dst := some 35, op := Op.indexAddr 30 (Operand.tmp 33) (Operand.tmp 34), type := 0, pos := "ref.go:45", after := #[{ on := 6, ground := Ground.data }, { on := 7, ground := Ground.data }], guard := none }) (v := ?d1_9xv8) rfl (by kernel_rfl) (by kernel_rfl) (by kernel_rfl) (fun _ _ _ h => h) (Or.inl ⟨by rfl, ?d1_9xy8⟩) (by assumption) ?d1_9xr8
          case d1_9xy8 => (intro w hSw; (try dsimp only at hSw); go_simp; try with_reducible rfl)
          (try simp only [Act.put])
          (try simp only [List.setIfInBounds_toArray])
          (try simp only [List.set_cons_succ])
          (try simp only [List.set_cons_zero])
          refine wpAnyH_take (i := 9) (oi := { dst := some 36, op := Op.fieldAddr 50 (Operand.tmp 35) 2, type := 0, pos := "ref.go:45", after := #[{ on := 8, ground := Ground.data }], guard := none }) (v := ?d1_10xv9) rfl (by kernel_rfl) (by kernel_rfl) (by kernel_rfl) (fun _ _ _ h => h) (Or.inl ⟨by rfl, ?d1_10xy9⟩) (by assumption) ?d1_10xr9
          case d1_10xy9 => (intro w hSw; (try dsimp only at hSw); go_simp; try with_reducible rfl)
          (try simp only [Act.put])
          (try simp only [List.setIfInBounds_toArray])
          (try simp only [List.set_cons_succ])
          (try simp only [List.set_cons_zero])
          refine wpAnyH_take (i := 10) (oi := { dst := some 37, op := Op.load 2 (Operand.tmp 36), type := 2, pos := "ref.go:45", after := #[{ on := 9, ground := Ground.data }], guard := none }) (v := ?d1_11xv10) rfl (by kernel_rfl) (by kernel_rfl) (by kernel_rfl) (fun _ _ _ h => h) (Or.inl ⟨by rfl, ?d1_11xy10⟩) (by assumption) ?d1_11xr10
          case d1_11xy10 => (intro w hSw; (try dsimp only at hSw); go_simp; try with_reducible rfl)
          (try simp only [Act.put])
          (try simp only [List.setIfInBounds_toArray])
          (try simp only [List.set_cons_succ])
          (try simp only [List.set_cons_zero])
          refine wpAnyH_take (i := 11) (oi := { dst := some 38, op := Op.move (Operand.tmp 1), type := 30, pos := "ref.go:45", after := #[], guard := none }) (v := ?d1_12xv11) rfl (by kernel_rfl) (by kernel_rfl) (by kernel_rfl) (fun _ _ _ h => h) (Or.inl ⟨by rfl, ?d1_12xy11⟩) (by assumption) ?d1_12xr11
          case d1_12xy11 => (intro w hSw; (try dsimp only at hSw); go_simp; try with_reducible rfl)
          (try simp only [Act.put])
          (try simp only [List.setIfInBounds_toArray])
          (try simp only [List.set_cons_succ])
          (try simp only [List.set_cons_zero])
          refine wpAnyH_take (i := 12) (oi := { dst := some 39, op := Op.move (Operand.tmp 7), type := 3, pos := "ref.go:45", after := #[], guard := none }) (v := ?d1_13xv12) rfl (by kernel_rfl) (by kernel_rfl) (by kernel_rfl) (fun _ _ _ h => h) (Or.inl ⟨by rfl, ?d1_13xy12⟩) (by assumption) ?d1_13xr12
          case d1_13xy12 => (intro w hSw; (try dsimp only at hSw); go_simp; try with_reducible rfl)
          (try simp only [Act.put])
          (try simp only [List.setIfInBounds_toArray])
          (try simp only [List.set_cons_succ])
          (try simp only [List.set_cons_zero])
          refine wpAnyH_take (i := 13) (oi := { dst := some 40, op := Op.indexAddr 30 (Operand.tmp 38) (Operand.tmp 39), type := 0, pos := "ref.go:45", after := #[{ on := 11, ground := Ground.data }, { on := 12, ground := Ground.data }], guard := none }) (v := ?d1_14xv13) rfl (by kernel_rfl) (by kernel_rfl) (by kernel_rfl) (fun _ _ _ h => h) (Or.inl ⟨by rfl, ?d1_14xy13⟩) (by assumption) ?d1_14xr13
          case d1_14xy13 => (intro w hSw; (try dsimp only at hSw); go_simp; try with_reducible rfl)
          (try simp only [Act.put])
          (try simp only [List.setIfInBounds_toArray])
          (try simp only [List.set_cons_succ])
          (try simp only [List.set_cons_zero])
          refine wpAnyH_take (i := 14) (oi := { dst := some 41, op := Op.fieldAddr 50 (Operand.tmp 40) 1, type := 0, pos := "ref.go:45", after := #[{ on := 13, ground := Ground.data }], guard := none }) (v := ?d1_15xv14) rfl (by kernel_rfl) (by kernel_rfl) (by kernel_rfl) (fun _ _ _ h => h) (Or.inl ⟨by rfl, ?d1_15xy14⟩) (by assumption) ?d1_15xr14
          case d1_15xy14 => (intro w hSw; (try dsimp only at hSw); go_simp; try with_reducible rfl)
          (try simp only [Act.put])
          (try simp only [List.setIfInBounds_toArray])
          (try simp only [List.set_cons_succ])
          (try simp only [List.set_cons_zero])
          refine wpAnyH_take (i := 15) (oi := { dst := some 42, op := Op.fieldAddr 43 (Operand.tmp 41) 1, type := 0, pos := "ref.go:45", after := #[{ on := 14, ground := Ground.data }], guard := none }) (v := ?d1_16xv15) rfl (by kernel_rfl) (by kernel_rfl) (by kernel_rfl) (fun _ _ _ h => h) (Or.inl ⟨by rfl, ?d1_16xy15⟩) (by assumption) ?d1_16xr15
          case d1_16xy15 => (intro w hSw; (try dsimp only at hSw); go_simp; try with_reducible rfl)
          (try simp only [Act.put])
          (try simp only [List.setIfInBounds_toArray])
          (try simp only [List.set_cons_succ])
          (try simp only [List.set_cons_zero])
          refine wpAnyH_take (i := 16) (oi := { dst := some 43, op := Op.load 41 (Operand.tmp 42), type := 41, pos := "ref.go:45", after := #[{ on := 15, ground := Ground.data }], guard := none }) (v := ?d1_17xv16) rfl (by kernel_rfl) (by kernel_rfl) (by kernel_rfl) (fun _ _ _ h => h) (Or.inl ⟨by rfl, ?d1_17xy16⟩) (by assumption) ?d1_17xr16
          case d1_17xy16 => (intro w hSw; (try dsimp only at hSw); go_simp; try with_reducible rfl)
          (try simp only [Act.put])
          (try simp only [List.setIfInBounds_toArray])
          (try simp only [List.set_cons_succ])
          (try simp only [List.set_cons_zero])
          refine wpAnyH_take (i := 17) (oi := { dst := some 44, op := Op.binOp BinOp.add 41 (Operand.tmp 43) (Operand.const (Value.int IntKind.u32 1)) 41, type := 41, pos := "ref.go:45", after := #[{ on := 16, ground := Ground.data }], guard := none }) (v := ?d1_18xv17) rfl (by kernel_rfl) (by kernel_rfl) (by kernel_rfl) (fun _ _ _ h => h) (Or.inl ⟨by rfl, ?d1_18xy17⟩) (by assumption) ?d1_18xr17
          case d1_18xy17 => (intro w hSw; (try dsimp only at hSw); go_simp; try with_reducible rfl)
          (try simp only [Act.put])
          (try simp only [List.setIfInBounds_toArray])
          (try simp only [List.set_cons_succ])
          (try simp only [List.set_cons_zero])
          refine wpAnyH_take (i := 18) (oi := { dst := some 45, op := Op.build 43 #[(0, Operand.tmp 37), (1, Operand.tmp 44)], type := 43, pos := "ref.go:45", after := #[{ on := 10, ground := Ground.data }, { on := 17, ground := Ground.data }], guard := none }) (v := ?d1_19xv18) rfl (by kernel_rfl) (by kernel_rfl) (by kernel_rfl) (fun _ _ _ h => h) (Or.inl ⟨by rfl, ?d1_19xy18⟩) (by assumption) ?d1_19xr18
          case d1_19xy18 => (intro w hSw; (try dsimp only at hSw); go_simp; try with_reducible rfl)
          (try simp only [Act.put])
          (try simp only [List.setIfInBounds_toArray])
          (try simp only [List.set_cons_succ])
          (try simp only [List.set_cons_zero])
          refine wpAnyH_take (i := 19) (oi := { dst := some 46, op := Op.indexAddr 22 (Operand.tmp 27) (Operand.tmp 32), type := 0, pos := "ref.go:45", after := #[{ on := 0, ground := Ground.data }, { on := 5, ground := Ground.data }, { on := 0, ground := Ground.phase }, { on := 1, ground := Ground.phase }, { on := 2, ground := Ground.phase }, { on := 3, ground := Ground.phase }, { on := 4, ground := Ground.phase }, { on := 5, ground := Ground.phase }, { on := 6, ground := Ground.phase }, { on := 7, ground := Ground.phase }, { on := 8, ground := Ground.phase }, { on := 9, ground := Ground.phase }, { on := 10, ground := Ground.phase }, { on := 11, ground := Ground.phase }, { on := 12, ground := Ground.phase }, { on := 13, ground := Ground.phase }, { on := 14, ground := Ground.phase }, { on := 15, ground := Ground.phase }, { on := 16, ground := Ground.phase }, { on := 17, ground := Ground.phase }, { on := 18, ground := Ground.phase }], guard := none }) (v := ?d1_20xv19) rfl (by kernel_rfl) (by kernel_rfl) (by kernel_rfl) (fun _ _ _ h => h) (Or.inl ⟨by rfl, ?d1_20xy19⟩) (by assumption) ?d1_20xr19
          case d1_20xy19 => (intro w hSw; (try dsimp only at hSw); go_simp; try with_reducible rfl)
          (try simp only [Act.put])
          (try simp only [List.setIfInBounds_toArray])
          (try simp only [List.set_cons_succ])
          (try simp only [List.set_cons_zero])
          refine wpAnyH_ready (rs := [20]) (by kernel_rfl) (by simp) ?_
          refine AllReadyH.cons (o := { dst := none, op := Op.store 43 (Operand.tmp 46) (Operand.tmp 45), type := 0, pos := "ref.go:45", after := #[{ on := 19, ground := Ground.data }, { on := 18, ground := Ground.data }, { on := 0, ground := Ground.phase }, { on := 1, ground := Ground.phase }, { on := 2, ground := Ground.phase }, { on := 3, ground := Ground.phase }, { on := 4, ground := Ground.phase }, { on := 5, ground := Ground.phase }, { on := 6, ground := Ground.phase }, { on := 7, ground := Ground.phase }, { on := 8, ground := Ground.phase }, { on := 9, ground := Ground.phase }, { on := 10, ground := Ground.phase }, { on := 11, ground := Ground.phase }, { on := 12, ground := Ground.phase }, { on := 13, ground := Ground.phase }, { on := 14, ground := Ground.phase }, { on := 15, ground := Ground.phase }, { on := 16, ground := Ground.phase }, { on := 17, ground := Ground.phase }, { on := 18, ground := Ground.phase }], guard := none }) rfl (fun K hK => ?_) AllReadyH.nil
          go_simp
          replace p0 := s0
          replace p4 := s4
          replace p2 := s2
          refine hK.out _ _ ?_ (fun hHeld => ?_)
          · exact ⟨p0, p4, p2⟩
          clear hK K
          (try simp only [Act.put])
          (try simp only [List.setIfInBounds_toArray])
          (try simp only [List.set_cons_succ])
          (try simp only [List.set_cons_zero])
          refine wpAnyH_done (by kernel_rfl) ?_ _
          clear hHeld
          go_wp2
          go_roundw
          case rel => exact ⟨k + 1, by omega, by go_num, by rw [UT.out]; exact NS.out, NB.out⟩
          case measure => simp [intOf]; omega
      · obtain rfl : k = n := by omega
        rw [List.take_of_length_le (by rw [HN.out]; exact Nat.le_refl _)] at R
        go_wp2
        go_ret2
        exact ⟨_, rfl, R.out.sk, BB.out⟩
end Go.Proofs.Ytmophafgmimhcaa
