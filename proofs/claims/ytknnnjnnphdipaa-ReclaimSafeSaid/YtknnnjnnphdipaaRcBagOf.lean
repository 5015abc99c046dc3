/- bag of the statements: a bag of the given items. -/
import Derived.Test.YtknnnjnnphdipaaRcSweep
namespace Go.Proofs.Ytknnnjnnphdipaa
open Go.ChangeShapes Go.WideShapes Go.ChangeAt Go.RowKit Go.Maps
/-- The items that a bag takes. -/
def takeL : List It → List It → List It
  | L, [] => L
  | L, x :: r => takeL (if wrongL L x = 0 then L ++ [x] else L) r
def bagL (l : List It) : List It := takeL [] l
theorem takeL_app (L : List It) (a b : List It) : takeL L (a ++ b) = takeL (takeL L a) b := by
  induction a generalizing L with
  | nil => rfl
  | cons x r ih => exact ih _
theorem takeL_good {L : List It} (h : Good6 L) (l : List It) : Good6 (takeL L l) := by
  induction l generalizing L with
  | nil => exact h
  | cons x r ih =>
    unfold takeL
    split
    · rename_i hw; exact ih (h.add hw)
    · exact ih h
theorem bagL_good (l : List It) : Good6 (bagL l) := takeL_good Good6.nil l
theorem bagL_succ (l : List It) {k : Nat} (h : k < l.length) : bagL (l.take (k + 1)) = if wrongL (bagL (l.take k)) (l.getD k zIt) = 0 then bagL (l.take k) ++ [l.getD k zIt] else bagL (l.take k) := by
  unfold bagL
  rw [take_succ_getD3 l h, takeL_app]
  rfl
/-- The loop: the bag (box b), the answer's box (g), the items taken, the errors. -/
structure BB2 (w wr : World) (b g : Nat) (c : Array Value) (L0 L : List It) (rv cv : Value) (C : List Int) : Prop where
  bb : Box wr b c 29
  bv : BV c L0
  gb : Box wr g zBag 29
  rr : Row3 35 w.heap.size wr rv L
  cr : Row 31 w.heap.size wr cv C
  bel : Below w.heap.size w wr
  lb : w.heap.size ≤ b
  lg : w.heap.size ≤ g
  ne : g ≠ b
theorem BB2.below {w wr w1 : World} {b g : Nat} {c : Array Value} {L0 L : List It} {rv cv : Value} {C : List Int} (h : BB2 w wr b g c L0 L rv cv C) (hb : Below wr.heap.size wr w1) : BB2 w w1 b g c L0 L rv cv C :=
  ⟨h.bb.below hb, h.bv, h.gb.below hb, h.rr.below hb, h.cr.below hb, h.bel.trans (hb.mono h.bel.size), h.lb, h.lg, h.ne⟩
theorem BB2.row {w wr : World} {b g n : Nat} {c d cs : Array Value} {L0 L : List It} {rv cv : Value} {C : List Int} (h : BB2 w wr b g c L0 L rv cv C) (hn : Box wr n d 29) (h1 : b ≠ n) (h2 : g ≠ n) (h3 : w.heap.size ≤ n) : BB2 w (wr.setRow n cs) b g c L0 L rv cv C :=
  ⟨h.bb.row h1, h.bv, h.gb.row h2, own_row h.rr hn (by decide), own_row h.cr hn (by decide), below_row h.bel h3 _, h.lb, h.lg, h.ne⟩
theorem BB2.put {w wr : World} {b g : Nat} {c cs : Array Value} {L0 L1 L : List It} {rv cv : Value} {C : List Int} (h : BB2 w wr b g c L0 L rv cv C) (hv : BV cs L1) : BB2 w (wr.setRow b cs) b g cs L1 L rv cv C :=
  ⟨h.bb.rowSame, hv, h.gb.row h.ne, own_row h.rr h.bb (by decide), own_row h.cr h.bb (by decide), below_row h.bel h.lb _, h.lb, h.lg, h.ne⟩
theorem results_cell_tmps {fn : Func} {p u v : Tmp} {ty : TypeId} (h : fn.results = #[.cell p ty, .tmp u, .tmp v]) (tmps : Array Value) (P : Program) (w : World) :
    (results fn tmps).run P w =
      ((asAddr (tmps.getD p undef)).run P w).andThen fun a w₁ => ((loadVar ty a).run P w₁).andThen fun x w₂ => .ok (.tuple #[x, tmps.getD u undef, tmps.getD v undef]) w₂ := by
  simp only [results, h]
  simp [Sem.run_bind, Result.andThen]
theorem bag_end {l : List It} {w W : World} {a : Act} {c : Array Value} {g : Nat} {rv cv : Value} (hp : a.tmps.getD 2 undef = .pointer (some ⟨g, 0, none⟩)) (hc : a.tmps.getD 3 undef = rv) (he : a.tmps.getD 4 undef = cv) (hd : a.defers = [])
    (hB : Box W g c 29) (hV : BV c (bagL l)) (hr : Row3 35 w.heap.size W rv (bagL l)) (hb : Below w.heap.size w W) : bodyPost Try.prog Try.f13 (fun e w' => ∃ c rv cv, e = .returned (.tuple #[.agg c, rv, cv]) ∧ BV c (bagL l) ∧ Row3 35 w.heap.size w' rv (bagL l) ∧ Below w.heap.size w w') Exit.ret a W := by
  refine bodyPost_ret (v := .tuple #[.agg c, rv, cv]) ?_ hd ⟨c, rv, cv, rfl, hV, hr, hb⟩
  rw [results_cell_tmps (p := 2) (u := 3) (v := 4) (ty := 29) rfl a.tmps Try.prog W, hp, hc, he]
  simp only [asAddr, Sem.run_pure, Result.andThen_ok, run_loadVar_row W g 29 29 c (0, 0) _ hB Try.underlying29 rfl hV.info]
theorem box_range {w : World} {b : Nat} {t : TypeId} {lc : List Value} (h : Box w b lc.toArray t) : w.rangeAt b 0 lc := by
  intro j v hv
  rw [Nat.zero_add, h.cell]
  simpa using hv
theorem step_app' {st e : TypeId} (hst : Try.prog.underlying st = some (.slice e)) (hin : (Try.prog.info? e).map (fun i => (i.zero, i.size, i.bytes)) = some (some (.int .i64 0), 1, 8)) (w : World) {ops : Array Oper} {o : Oper} {a : Act} {K : Act → World → Prop} {Q : Exit → Act → World → Prop} {E : Prop} (hgd : o.guard = none) (s x : Operand)
    (ho : o.op = .call { callee := .builtin .append, args := #[s, x], argTypes := #[st, st] }) {w0 : World} {v : Value} {l : List Int} (hs : a.eval s = v) (hb : Below w0.heap.size w0 w) (hown : Row e w0.heap.size w v l) {xv : Value} {ss : List Int} (hxv : a.eval x = xv) (hx : IS w xv ss) (hn : l.length + ss.length ≤ 1000000)
    (hK : ∀ v' w', Row e w0.heap.size w' v' (l ++ ss) → Below w0.heap.size w0 w' → w.grownBy w' v.ownBlock → K (a.put o.dst v') w') : if Region.wanted o (yielded ops a.tmps) = true then Oper.wp Try.prog o a w K Q else E := by
  have hw : Region.wanted o (yielded ops a.tmps) = true := by simp [Region.wanted, hgd]
  rw [if_pos hw]
  obtain ⟨v', w', hrun, r1, r2⟩ := run_app hst hin o.type hown hx hn hb.size
  unfold Oper.wp
  simp [execOp, ho, resolve, invoke, builtin, hs, hxv, hrun, Result.andThen]
  exact hK v' w' r1 (below_app hb hb.size hown r2) r2
theorem BB2.code {w wr w1 : World} {b g : Nat} {c : Array Value} {L0 L : List It} {rv cv cv' : Value} {C C' : List Int} (h : BB2 w wr b g c L0 L rv cv C) (hg : wr.grownBy w1 cv.ownBlock) (hr : Row 31 w.heap.size w1 cv' C') (hb : Below w.heap.size w w1) : BB2 w w1 b g c L0 L rv cv' C' :=
  ⟨box_grown' h.bb h.cr (by decide) hg, h.bv, box_grown' h.gb h.cr (by decide) hg, own_grown h.rr h.cr (by decide) hg, hr, hb, h.lb, h.lg, h.ne⟩
theorem BB2.item {w wr w1 : World} {b g : Nat} {c : Array Value} {L0 L L' : List It} {rv rv' cv : Value} {C : List Int} (h : BB2 w wr b g c L0 L rv cv C) (hg : wr.grownBy w1 rv.ownBlock) (hr : Row3 35 w.heap.size w1 rv' L') (hb : Below w.heap.size w w1) : BB2 w w1 b g c L0 L' rv' cv C :=
  ⟨box_grown' h.bb h.rr (by decide) hg, h.bv, box_grown' h.gb h.rr (by decide) hg, hr, own_grown h.cr h.rr (by decide) hg, hb, h.lb, h.lg, h.ne⟩
set_option maxRecDepth 100000 in
set_option maxHeartbeats 6400000 in
theorem bag_any (v : Value) (l : List It) (w : World) (hv : PS w v l) (hl : l.length ≤ 1000) : Calls Try.prog 13 #[v] w fun e w' => ∃ c rv cv, e = .returned (.tuple #[.agg c, rv, cv]) ∧ BV c (bagL l) ∧ Row3 35 w.heap.size w' rv (bagL l) ∧ Below w.heap.size w w' := by
  have HV := Lib.hid hv
  obtain ⟨a1, c1, rfl⟩ := hv.form
  clear hv
  obtain ⟨n, hn⟩ : ∃ n, l.length = n := ⟨_, rfl⟩
  rw [hn] at hl HV ⊢
  have HN := Lib.hid hn
  clear hn
  have ZS := Lib.hid zBag_size
  have zv := zero29
  go_enter Try.func13, Try.ntmps13
  go_upto_region 2 with fail
  clear zv
  obtain ⟨q, hq⟩ : ∃ q, w.heap.size = q := ⟨_, rfl⟩
  obtain ⟨W, hW⟩ : ∃ W, (w.alloc (.cells zBag 29)).alloc (.cells zBag 29) = W := ⟨_, rfl⟩
  have S0 : Hid (BB2 w W (q + 1) q zBag [] [] (.slice none 0 0) (.slice none 0 0) []) := Lib.hid (by
    rw [← hW]
    exact ⟨Box.new _ _ 29 (by simp; omega), BV.zero, (Box.new w _ 29 hq.symm).alloc _, Row3.nil _ _ _, Row.nil _ _ _, (below1 w _).alloc (by simp) _, by omega, by omega, by omega⟩)
  rw [hW, hq]
  have HQ := Lib.hid hq
  clear hW hq
  go_wp2_with fail
  go_loopw [6, 7, 14] (fun rv cv iv wr => ∃ k : Nat, ∃ c C, k ≤ n ∧ iv = .int .i64 k ∧ BB2 w wr (q + 1) q c (bagL (l.take k)) (bagL (l.take k)) rv cv C ∧ C.length ≤ k) (fun _ _ iv _ => n - (intOf iv).toNat)
  case atStart => exact ⟨0, zBag, [], by omega, rfl, S0.out, by simp⟩
  case round =>
    obtain ⟨k, c, C, hk, rfl, hs, hcl⟩ := hrel
    have S := Lib.hid hs
    have HGL := Lib.hid (bagL_good (l.take k))
    have hL64 := hs.bv.len
    clear hs S0
    by_cases hlt : k < n
    · obtain ⟨b, off, rfl, hbl, hc⟩ := HV.out.addr hlt
      obtain ⟨c0, c1', c2'⟩ := hc k hlt
      rw [← S.out.bel.cell (p := ⟨b, _, none⟩) hbl] at c0 c1' c2'
      have HT := Lib.hid (bagL_succ l (k := k) (by rw [HN.out]; exact hlt))
      clear hc
      obtain ⟨y, hy⟩ : ∃ y, l.getD k zIt = y := ⟨_, rfl⟩
      rw [hy] at c0 c1' c2' HT
      clear hy
      obtain ⟨L, hL⟩ : ∃ L, bagL (l.take k) = L := ⟨_, rfl⟩
      rw [hL] at S HT HGL hL64
      clear hL
      have RT := Lib.hid (fun W => retire_any c L y W S.out.bv HGL.out)
      have WR := Lib.hid (fun (W : World) v (h : PS W v L) => wrong_any v L y W h (by omega))
      unfold itV at RT WR
      obtain ⟨y0, y1, y2⟩ := y
      simp only at c0 c1' c2' RT WR
      obtain ⟨ra, rc, rfl⟩ := S.out.rr.form
      obtain ⟨ca, cc, rfl, -⟩ := S.out.cr.form
      obtain ⟨wo, rfl⟩ : ∃ wo, wo = wr := ⟨_, rfl⟩
      go_upto_region 7 with fail
      obtain ⟨W2, hW2⟩ : ∃ W2, wo.alloc (.cells #[.int .i64 y0, .int .i64 y1, .int .i64 y2] 26) = W2 := ⟨_, rfl⟩
      obtain ⟨g, hgq⟩ : ∃ g, wo.heap.size = g := ⟨_, rfl⟩
      have X0 : Hid (Box W2 g #[.int .i64 y0, .int .i64 y1, .int .i64 y2] 26) := Lib.hid (by rw [← hW2]; exact Box.new wo _ 26 hgq.symm)
      have S2 : Hid (BB2 w W2 (q + 1) q c L L (.slice ra L.length rc) (.slice ca C.length cc) C) := Lib.hid (by rw [← hW2]; exact S.out.below (below1 wo _))
      rw [hW2, hgq]
      clear hW2 hgq c0 c1' c2' S
      have z0 := X0.out.cell 0
      have z1 := X0.out.cell 1
      have z2 := X0.out.cell 2
      simp at z0 z1 z2
      have CS := Lib.hid S2.out.bv.size
      have zv := zero29
      go_wp2_with (first
        | ((with_reducible refine wpList_loadBag (q + 1) c 29 ?_ ?_ ?_ ?_); rfl; exact S2.out.bb; exact CS.out)
        | fail)
      refine (RT.out W2).mono ?_
      rintro e w3 ⟨c4, rfl, hv4, hb⟩
      have S3 := Lib.hid (S2.out.below hb)
      have X1 := Lib.hid (X0.out.below hb)
      have V4 := Lib.hid hv4
      clear hb hv4 z0 z1 z2 RT S2 X0
      obtain ⟨er, her⟩ : ∃ er, wrongL L (y0, y1, y2) = er := ⟨_, rfl⟩
      rw [her] at V4 HT ⊢
      have HER := Lib.hid her
      clear her
      have N1 := Lib.hid (Box.new w3 zBag 29 rfl)
      have S4 := Lib.hid (S3.out.below (below1 w3 (.cells zBag 29)))
      have X2 := Lib.hid (X1.out.below (below1 w3 (.cells zBag 29)))
      have hlt3 := S3.out.bb.lt
      have hg3 := X1.out.lt
      have hw3 := S3.out.bel.size
      go_upto_region 8 with (first
        | ((with_reducible refine wpList_storeBag w3.heap.size c4 zBag 29 ?_ ?_ ?_ ?_ ?_ ?_ ?_); rfl; rfl; exact N1.out; exact ZS.out; exact V4.out.size; exact V4.out.one)
        | fail)
      clear zv
      obtain ⟨nb, hnb⟩ : ∃ x, w3.heap.size = x := ⟨_, rfl⟩
      obtain ⟨lc, rfl⟩ : ∃ lc : List Value, c4 = lc.toArray := ⟨c4.toList, by simp⟩
      obtain ⟨W5, hW5⟩ : ∃ W5, (w3.alloc (.cells zBag 29)).setRow nb lc.toArray = W5 := ⟨_, rfl⟩
      rw [hnb] at N1 hlt3 hg3 hw3 ⊢
      have N2 : Hid (Box W5 nb lc.toArray 29) := Lib.hid (by rw [← hW5]; exact N1.out.rowSame)
      have S5 : Hid (BB2 w W5 (q + 1) q c L L (.slice ra L.length rc) (.slice ca C.length cc) C) := Lib.hid (by rw [← hW5]; exact S4.out.row N1.out (by omega) (by omega) hw3)
      have X3 : Hid (Box W5 g #[.int .i64 y0, .int .i64 y1, .int .i64 y2] 26) := Lib.hid (by rw [← hW5]; exact X2.out.row (by omega))
      rw [hW5]
      clear hW5 hnb N1 S4 X2 S3 X1
      have z0 := X3.out.cell 0
      have z1 := X3.out.cell 1
      have z2 := X3.out.cell 2
      simp at z0 z1 z2
      go_wp2_with fail
      refine (WR.out W5 _ S5.out.rr.ps).mono ?_
      rintro e w6 ⟨rfl, hb⟩
      rw [HER.out]
      have S6 := Lib.hid (S5.out.below hb)
      have X4 := Lib.hid (X3.out.below hb)
      have N3 := Lib.hid (N2.out.below hb)
      have hne : Hid (q + 1 ≠ nb) := Lib.hid (by omega)
      clear hb z0 z1 z2 S5 X3 N2 WR hlt3 hg3 hw3 HER
      by_cases h0 : er = 0
      · subst h0
        rw [if_pos rfl] at HT V4
        have z0 := X4.out.cell 0
        have z1 := X4.out.cell 1
        have z2 := X4.out.cell 2
        simp at z0 z1 z2
        have C3 := Lib.hid (PS.ofBox (Box.new w6 #[.int .i64 y0, .int .i64 y1, .int .i64 y2] 35 rfl) (L := [(y0, y1, y2)]) (n := 1) (cap := 1) rfl rfl (Nat.le_refl _))
        have S7 := Lib.hid (S6.out.below (below1 w6 (.cells #[.int .i64 y0, .int .i64 y1, .int .i64 y2] 35)))
        have N4 := Lib.hid (N3.out.below (below1 w6 (.cells #[.int .i64 y0, .int .i64 y1, .int .i64 y2] 35)))
        go_upto_region 10 with (first
          | (at_builtin; refine wpList_app3 Try.underlying30 infoR _ rfl (.tmp 28) (.tmp 30) rfl rfl S7.out.bel S7.out.rr rfl C3.out (by simp; omega) ?_; intro v8 w8 r8 b8 g8; have F8 : Hid (∃ a c, v8 = .slice a (L.length + 1) c) := Lib.hid (by obtain ⟨a, c, h⟩ := r8.ps.form; exact ⟨a, c, by rw [h]; simp⟩); obtain ⟨a8, c8, e8⟩ := F8.out; subst e8; have S := Lib.hid (S7.out.item g8 r8 b8); have N := Lib.hid (box_grown' N4.out S7.out.rr (by decide) g8); clear r8 b8 g8)
          | fail)
        clear z0 z1 z2 X4 S6 N3 S7 N4 C3
        obtain ⟨W, hWq⟩ : ∃ W, W = w8 := ⟨_, rfl⟩
        rw [← hWq] at S N ⊢
        clear hWq
        refine wp_region_held_drew (S := fun wz => wz.rangeAt nb 0 lc) (by kernel_rfl) (by rw [World.rangeAt_drew]; exact box_range N.out) (fun hHeld => ?_)
        replace S := Lib.hid (S.out.below ((Below.refl _ _).drew))
        replace N := Lib.hid (N.out.below ((Below.refl _ _).drew))
        generalize World.drew W = V at S N hHeld ⊢
        have HINF : Hid ((Try.prog.info? 29).map (·.size) = some lc.length) := Lib.hid (by have e := V4.out.size; rw [List.size_toArray] at e; rw [e]; exact infoBag)
        refine wpAnyH_take (i := 0) (oi := { dst := some 32, op := Op.load 29 (Operand.tmp 10), type := 29, pos := "law.go:27", after := #[], guard := none }) (v := .agg lc.toArray) rfl (by kernel_rfl) (by kernel_rfl) (by kernel_rfl) (fun _ _ _ h => h) (yieldsIf_load_mid (by rfl) 29 (.tmp 10) rfl nb 0 rfl lc _ (fun _ h => h) Try.underlying29 rfl HINF.out) (by assumption) ?_
        (try simp only [Act.put])
        (try simp only [List.setIfInBounds_toArray])
        (try simp only [List.set_cons_succ])
        (try simp only [List.set_cons_zero])
        refine wpAnyH_take (i := 1) (oi := { dst := some 33, op := Op.move (Operand.tmp 7), type := 39, pos := "law.go:27", after := #[], guard := none }) (v := ?v1) rfl (by kernel_rfl) (by kernel_rfl) (by kernel_rfl) (fun _ _ _ h => h) (Or.inl ⟨by rfl, ?y1⟩) (by assumption) ?r1
        case y1 => (intro w hSw; (try dsimp only at hSw); go_simp; try with_reducible rfl)
        (try simp only [Act.put])
        (try simp only [List.setIfInBounds_toArray])
        (try simp only [List.set_cons_succ])
        (try simp only [List.set_cons_zero])
        refine wpAnyH_take (i := 2) (oi := { dst := some 34, op := Op.move (Operand.tmp 11), type := 31, pos := "law.go:27", after := #[], guard := none }) (v := ?v2) rfl (by kernel_rfl) (by kernel_rfl) (by kernel_rfl) (fun _ _ _ h => h) (Or.inl ⟨by rfl, ?y2⟩) (by assumption) ?r2
        case y2 => (intro w hSw; (try dsimp only at hSw); go_simp; try with_reducible rfl)
        (try simp only [Act.put])
        (try simp only [List.setIfInBounds_toArray])
        (try simp only [List.set_cons_succ])
        (try simp only [List.set_cons_zero])
        refine wpAnyH_ready (rs := [3]) (by kernel_rfl) (by simp) ?_
        refine AllReadyH.cons (o := { dst := some 35, op := Op.buildSlice 39 1 #[(0, Operand.tmp 34)], type := 39, pos := "law.go:27", after := #[{ on := 2, ground := Ground.data }], guard := none }) rfl (fun K hK => ?_) AllReadyH.nil
        go_simp
        have E3 := Lib.hid (IS.ofBox (Box.new V #[.int .i64 0] 31 rfl) (L := [0]) (n := 1) (cap := 1) rfl rfl (Nat.le_refl _))
        replace S := Lib.hid (S.out.below (below1 V (.cells #[.int .i64 0] 31)))
        replace N := Lib.hid (N.out.below (below1 V (.cells #[.int .i64 0] 31)))
        refine hK.out _ _ ?_ (fun hHeld => ?_)
        · exact box_range N.out
        clear hK K
        (try simp only [Act.put])
        (try simp only [List.setIfInBounds_toArray])
        (try simp only [List.set_cons_succ])
        (try simp only [List.set_cons_zero])
        refine wpAnyH_ready (rs := [4]) (by kernel_rfl) (by simp) ?_
        refine AllReadyH.cons (o := { dst := some 36, op := Op.call { callee := Callee.builtin Builtin.append, args := #[Operand.tmp 33, Operand.tmp 35], argTypes := #[39, 39] }, type := 39, pos := "law.go:27", after := #[{ on := 1, ground := Ground.data }, { on := 3, ground := Ground.data }], guard := none }) rfl (fun K hK => ?_) AllReadyH.nil
        refine step_app' Try.underlying39 infoE _ rfl (.tmp 33) (.tmp 35) rfl rfl S.out.bel S.out.cr rfl E3.out (by simp; omega) ?_
        intro v7 w7 r7 b7 g7
        have N9 := Lib.hid (box_grown' N.out S.out.cr (by decide) g7)
        have S9 := Lib.hid (S.out.code g7 r7 b7)
        clear r7 b7 g7 S N E3
        refine hK.out _ _ ?_ (fun hHeld => ?_)
        · exact box_range N9.out
        clear hK K
        (try simp only [Act.put])
        (try simp only [List.setIfInBounds_toArray])
        (try simp only [List.set_cons_succ])
        (try simp only [List.set_cons_zero])
        refine wpAnyH_ready (rs := [5]) (by kernel_rfl) (by simp) ?_
        refine AllReadyH.cons (o := { dst := none, op := Op.store 29 (Operand.tmp 5) (Operand.tmp 32), type := 0, pos := "law.go:27", after := #[{ on := 0, ground := Ground.data }, { on := 4, ground := Ground.chain }, { on := 0, ground := Ground.phase }, { on := 1, ground := Ground.textOnly Departure.lateStores }, { on := 2, ground := Ground.textOnly Departure.lateStores }, { on := 3, ground := Ground.textOnly Departure.lateStores }, { on := 4, ground := Ground.textOnly Departure.lateStoresUnsure }], guard := none }) rfl (fun K hK => ?_) AllReadyH.nil
        rw [if_pos (by rfl)]
        refine wp_store_row 29 (.tmp 5) (.tmp 32) rfl (q + 1) lc.toArray rfl rfl 29 c S9.out.bb V4.out.info (S9.out.bv.size.trans V4.out.size.symm) V4.out.one ?_
        refine hK.out _ _ ?_ (fun hHeld => ?_)
        · exact box_range (N9.out.row hne.out.symm)
        clear hK K
        (try simp only [Act.put])
        (try simp only [List.setIfInBounds_toArray])
        (try simp only [List.set_cons_succ])
        (try simp only [List.set_cons_zero])
        refine wpAnyH_ready (rs := [6]) (by kernel_rfl) (by simp) ?_
        refine AllReadyH.cons (o := { dst := some 7, op := Op.assign (Operand.tmp 36), type := 39, pos := "law.go:27", after := #[{ on := 4, ground := Ground.data }, { on := 5, ground := Ground.chain }, { on := 0, ground := Ground.phase }, { on := 1, ground := Ground.phase }, { on := 2, ground := Ground.phase }, { on := 3, ground := Ground.phase }, { on := 4, ground := Ground.phase }, { on := 5, ground := Ground.phase }], guard := none }) rfl (fun K hK => ?_) AllReadyH.nil
        go_simp
        refine hK.out _ _ ?_ (fun hHeld => ?_)
        · exact hHeld
        clear hK K
        (try simp only [Act.put])
        (try simp only [List.setIfInBounds_toArray])
        (try simp only [List.set_cons_succ])
        (try simp only [List.set_cons_zero])
        refine wpAnyH_done (by kernel_rfl) ?_ _
        go_wp2_with fail
        go_roundw
        case rel => exact ⟨k + 1, lc.toArray, _, by omega, by go_num, by rw [HT.out]; exact S9.out.put V4.out, by simp; omega⟩
        case measure => simp [intOf]; omega
      · have hb0 : (er == 0) = false := by rw [beq_eq_false_iff_ne]; exact h0
        rw [if_neg h0] at HT V4
        go_upto_region 10 with fail
        have S := Lib.hid S6.out
        have N := Lib.hid N3.out
        clear S6 N3 X4
        obtain ⟨W, hWq⟩ : ∃ W, W = w6 := ⟨_, rfl⟩
        rw [← hWq] at S N ⊢
        clear hWq
        refine wp_region_held_drew (S := fun wz => wz.rangeAt nb 0 lc) (by kernel_rfl) (by rw [World.rangeAt_drew]; exact box_range N.out) (fun hHeld => ?_)
        replace S := Lib.hid (S.out.below ((Below.refl _ _).drew))
        replace N := Lib.hid (N.out.below ((Below.refl _ _).drew))
        generalize World.drew W = V at S N hHeld ⊢
        have HINF : Hid ((Try.prog.info? 29).map (·.size) = some lc.length) := Lib.hid (by have e := V4.out.size; rw [List.size_toArray] at e; rw [e]; exact infoBag)
        refine wpAnyH_take (i := 0) (oi := { dst := some 32, op := Op.load 29 (Operand.tmp 10), type := 29, pos := "law.go:27", after := #[], guard := none }) (v := .agg lc.toArray) rfl (by kernel_rfl) (by kernel_rfl) (by kernel_rfl) (fun _ _ _ h => h) (yieldsIf_load_mid (by rfl) 29 (.tmp 10) rfl nb 0 rfl lc _ (fun _ h => h) Try.underlying29 rfl HINF.out) (by assumption) ?_
        (try simp only [Act.put])
        (try simp only [List.setIfInBounds_toArray])
        (try simp only [List.set_cons_succ])
        (try simp only [List.set_cons_zero])
        refine wpAnyH_take (i := 1) (oi := { dst := some 33, op := Op.move (Operand.tmp 7), type := 39, pos := "law.go:27", after := #[], guard := none }) (v := ?vb1) rfl (by kernel_rfl) (by kernel_rfl) (by kernel_rfl) (fun _ _ _ h => h) (Or.inl ⟨by rfl, ?yb1⟩) (by assumption) ?rb1
        case yb1 => (intro w hSw; (try dsimp only at hSw); go_simp; try with_reducible rfl)
        (try simp only [Act.put])
        (try simp only [List.setIfInBounds_toArray])
        (try simp only [List.set_cons_succ])
        (try simp only [List.set_cons_zero])
        refine wpAnyH_take (i := 2) (oi := { dst := some 34, op := Op.move (Operand.tmp 11), type := 31, pos := "law.go:27", after := #[], guard := none }) (v := ?vb2) rfl (by kernel_rfl) (by kernel_rfl) (by kernel_rfl) (fun _ _ _ h => h) (Or.inl ⟨by rfl, ?yb2⟩) (by assumption) ?rb2
        case yb2 => (intro w hSw; (try dsimp only at hSw); go_simp; try with_reducible rfl)
        (try simp only [Act.put])
        (try simp only [List.setIfInBounds_toArray])
        (try simp only [List.set_cons_succ])
        (try simp only [List.set_cons_zero])
        refine wpAnyH_ready (rs := [3]) (by kernel_rfl) (by simp) ?_
        refine AllReadyH.cons (o := { dst := some 35, op := Op.buildSlice 39 1 #[(0, Operand.tmp 34)], type := 39, pos := "law.go:27", after := #[{ on := 2, ground := Ground.data }], guard := none }) rfl (fun K hK => ?_) AllReadyH.nil
        go_simp
        have E3 := Lib.hid (IS.ofBox (Box.new V #[.int .i64 er] 31 rfl) (L := [er]) (n := 1) (cap := 1) rfl rfl (Nat.le_refl _))
        replace S := Lib.hid (S.out.below (below1 V (.cells #[.int .i64 er] 31)))
        replace N := Lib.hid (N.out.below (below1 V (.cells #[.int .i64 er] 31)))
        refine hK.out _ _ ?_ (fun hHeld => ?_)
        · exact box_range N.out
        clear hK K
        (try simp only [Act.put])
        (try simp only [List.setIfInBounds_toArray])
        (try simp only [List.set_cons_succ])
        (try simp only [List.set_cons_zero])
        refine wpAnyH_ready (rs := [4]) (by kernel_rfl) (by simp) ?_
        refine AllReadyH.cons (o := { dst := some 36, op := Op.call { callee := Callee.builtin Builtin.append, args := #[Operand.tmp 33, Operand.tmp 35], argTypes := #[39, 39] }, type := 39, pos := "law.go:27", after := #[{ on := 1, ground := Ground.data }, { on := 3, ground := Ground.data }], guard := none }) rfl (fun K hK => ?_) AllReadyH.nil
        refine step_app' Try.underlying39 infoE _ rfl (.tmp 33) (.tmp 35) rfl rfl S.out.bel S.out.cr rfl E3.out (by simp; omega) ?_
        intro v7 w7 r7 b7 g7
        have N9 := Lib.hid (box_grown' N.out S.out.cr (by decide) g7)
        have S9 := Lib.hid (S.out.code g7 r7 b7)
        clear r7 b7 g7 S N E3
        refine hK.out _ _ ?_ (fun hHeld => ?_)
        · exact box_range N9.out
        clear hK K
        (try simp only [Act.put])
        (try simp only [List.setIfInBounds_toArray])
        (try simp only [List.set_cons_succ])
        (try simp only [List.set_cons_zero])
        refine wpAnyH_ready (rs := [5]) (by kernel_rfl) (by simp) ?_
        refine AllReadyH.cons (o := { dst := none, op := Op.store 29 (Operand.tmp 5) (Operand.tmp 32), type := 0, pos := "law.go:27", after := #[{ on := 0, ground := Ground.data }, { on := 4, ground := Ground.chain }, { on := 0, ground := Ground.phase }, { on := 1, ground := Ground.textOnly Departure.lateStores }, { on := 2, ground := Ground.textOnly Departure.lateStores }, { on := 3, ground := Ground.textOnly Departure.lateStores }, { on := 4, ground := Ground.textOnly Departure.lateStoresUnsure }], guard := none }) rfl (fun K hK => ?_) AllReadyH.nil
        rw [if_pos (by rfl)]
        refine wp_store_row 29 (.tmp 5) (.tmp 32) rfl (q + 1) lc.toArray rfl rfl 29 c S9.out.bb V4.out.info (S9.out.bv.size.trans V4.out.size.symm) V4.out.one ?_
        refine hK.out _ _ ?_ (fun hHeld => ?_)
        · exact box_range (N9.out.row hne.out.symm)
        clear hK K
        (try simp only [Act.put])
        (try simp only [List.setIfInBounds_toArray])
        (try simp only [List.set_cons_succ])
        (try simp only [List.set_cons_zero])
        refine wpAnyH_ready (rs := [6]) (by kernel_rfl) (by simp) ?_
        refine AllReadyH.cons (o := { dst := some 7, op := Op.assign (Operand.tmp 36), type := 39, pos := "law.go:27", after := #[{ on := 4, ground := Ground.data }, { on := 5, ground := Ground.chain }, { on := 0, ground := Ground.phase }, { on := 1, ground := Ground.phase }, { on := 2, ground := Ground.phase }, { on := 3, ground := Ground.phase }, { on := 4, ground := Ground.phase }, { on := 5, ground := Ground.phase }], guard := none }) rfl (fun K hK => ?_) AllReadyH.nil
        go_simp
        refine hK.out _ _ ?_ (fun hHeld => ?_)
        · exact hHeld
        clear hK K
        (try simp only [Act.put])
        (try simp only [List.setIfInBounds_toArray])
        (try simp only [List.set_cons_succ])
        (try simp only [List.set_cons_zero])
        refine wpAnyH_done (by kernel_rfl) ?_ _
        go_wp2_with fail
        go_roundw
        case rel => exact ⟨k + 1, lc.toArray, _, by omega, by go_num, by rw [HT.out]; exact S9.out.put V4.out, by simp; omega⟩
        case measure => simp [intOf]; omega
    · obtain rfl : k = n := by omega
      have HT : Hid (l.take k = l) := Lib.hid (List.take_of_length_le (by rw [HN.out]; exact Nat.le_refl _))
      rw [HT.out] at S
      have CS := Lib.hid S.out.bv.size
      go_wp2_with (first
        | ((with_reducible refine wpList_loadBag (q + 1) c 29 ?_ ?_ ?_ ?_); rfl; exact S.out.bb; exact CS.out)
        | ((with_reducible refine wpList_storeBag q c zBag 29 ?_ ?_ ?_ ?_ ?_ ?_ ?_); rfl; rfl; exact S.out.gb; exact ZS.out; exact CS.out; exact S.out.bv.one)
        | fail)
      exact bag_end rfl rfl rfl rfl S.out.gb.rowSame S.out.bv (own_row S.out.rr S.out.gb (by decide)) (below_row S.out.bel S.out.lg _)
end Go.Proofs.Ytknnnjnnphdipaa
