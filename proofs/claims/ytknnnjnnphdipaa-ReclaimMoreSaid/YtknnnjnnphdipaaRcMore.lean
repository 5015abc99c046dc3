/- The walk through ReclaimMore. -/
import Derived.Test.YtknnnjnnphdipaaRcKeys
namespace Go.Proofs.Ytknnnjnnphdipaa
open Go.ChangeShapes Go.WideShapes Go.ChangeAt Go.RowKit Go.Maps
theorem IS.take {w : World} {a : Option Addr} {n c h : Nat} {L : List Int} (hs : IS w (.slice a n c) L) (hh : h ≤ n) : IS w (.slice a h c) (L.take h) := by
  obtain ⟨a', c', e, hcap, hc⟩ := hs
  injection e with e1 e2 e3
  subst e1 e2 e3
  refine ⟨a, c, by rw [List.length_take, Nat.min_eq_left hh], by rw [List.length_take]; omega, ?_⟩
  rcases hc with hc | ⟨b, o, e, hb, hr⟩
  · left; rw [hc]; simp
  · right
    refine ⟨b, o, e, hb, fun i hi => ?_⟩
    rw [List.length_take] at hi
    have q : (L.take h).getD i 0 = L.getD i 0 := by
      rw [List.getD, List.getD, List.getElem?_take_of_lt (by omega)]
    rw [q]
    exact hr i (by omega)
theorem IS.cap {w : World} {a : Option Addr} {n c : Nat} {L : List Int} (hs : IS w (.slice a n c) L) : n ≤ c := by
  obtain ⟨a', c', e, hcap, hc⟩ := hs
  injection e with e1 e2 e3
  omega
theorem tdiv2 (n : Nat) : ((n : Int).tdiv 2) = ((n / 2 : Nat) : Int) := by
  rw [Int.tdiv_eq_ediv_of_nonneg (by omega)]; rfl
theorem PS.marked {w w1 : World} {v : Value} {L : List It} {b n : Nat} {S : List It} (h : PS w v L) (hm : MapI w b n S) (hg : w.grownBy w1 (some b)) : PS w1 v L := by
  obtain ⟨D, ⟨es, clock, hb, _⟩, _⟩ := hm
  obtain ⟨a, cap, hv, hcap, h | ⟨b', off, ha, hl, hc⟩⟩ := h
  · exact ⟨a, cap, hv, hcap, .inl h⟩
  · refine ⟨a, cap, hv, hcap, ?_⟩
    by_cases hL : L = []
    · exact .inl hL
    · right
      have hne : b' ≠ b := by
        intro e
        subst e
        have := (hc 0 (List.length_pos_iff.2 hL)).1
        simp [World.cell?, hb] at this
      have hk := hg.block b' hl (by simpa using hne)
      refine ⟨b', off, ha, Nat.lt_of_lt_of_le hl hg.size, fun i hi => ?_⟩
      have := hc i hi
      simp only [World.cell?, hk] at this ⊢
      exact this
set_option maxRecDepth 100000 in
set_option maxHeartbeats 6400000 in
theorem more_walk (v u z : Value) (l : List It) (A P : List Int) (w : World) (hv : PS w v l) (hu : IS w u A) (hz : IS w z P) (_ : OkL A) (op : OkL P) (ol : ∀ x ∈ l, I643 x) : Calls Try.prog 7 #[v, u, z] w (Good w) := by
  have HV := Lib.hid hv
  have HU := Lib.hid hu
  have HZ := Lib.hid hz
  have OP := Lib.hid op
  obtain ⟨a1, c1, rfl⟩ := hv.form
  obtain ⟨a2, c2, rfl⟩ := hu.form
  obtain ⟨a3, c3, rfl⟩ := hz.form
  have OL := Lib.hid ol
  clear hv hu hz op ol
  obtain ⟨n1, hn1⟩ : ∃ n, l.length = n := ⟨_, rfl⟩
  obtain ⟨n2, hn2⟩ : ∃ n, A.length = n := ⟨_, rfl⟩
  obtain ⟨n3, hn3⟩ : ∃ n, P.length = n := ⟨_, rfl⟩
  rw [hn1] at HV ⊢
  rw [hn2] at HU ⊢
  rw [hn3] at HZ ⊢
  have H1 := Lib.hid hn1
  have H2 := Lib.hid hn2
  have H3 := Lib.hid hn3
  clear hn1 hn2 hn3
  have ZS := Lib.hid zBag_size
  go_enter Try.func7, Try.ntmps7
  go_wp2_with fail
  refine (few_any _ _ _ l A P w HV.out HU.out HZ.out).mono ?_
  rintro e w' ⟨r, rfl, rfl, hr⟩
  rw [H1.out, H2.out, H3.out] at hr
  cases r with
  | false =>
    clear hr
    go_wp2_with fail
    refine (awake_any w).mono ?_
    rintro e w1 ⟨rfl, hb⟩
    have BB := Lib.hid hb
    clear hb
    go_wp2_with fail
    go_ret
    exact ⟨rfl, BB.out⟩
  | true =>
    obtain ⟨l1, l2, l3⟩ := hr rfl
    clear hr
    have zv := zero29
    go_wp2_with fail
    refine (bag_any _ l w HV.out (by rw [H1.out]; omega)).mono ?_
    rintro e w1 ⟨c, rv, cv, rfl, kv, kr, kb⟩
    have HG := Lib.hid (bagL_good l)
    have HS6 := Lib.hid (fun x (h : x ∈ bagL l) => OL.out x (bagL_sub l x h))
    obtain ⟨L, hL⟩ : ∃ L, bagL l = L := ⟨_, rfl⟩
    rw [hL] at kv kr HG HS6
    clear hL
    have hL64 := kv.len
    have V1 := Lib.hid kv
    have CS := Lib.hid kv.size
    have R1 := Lib.hid kr
    have BW := Lib.hid kb
    obtain ⟨ra, rc, rfl⟩ := kr.form
    obtain ⟨m, hm⟩ : ∃ m, L.length = m := ⟨_, rfl⟩
    rw [hm] at R1 hL64 ⊢
    have HM := Lib.hid hm
    clear kv kr kb hm
    go_upto_region 4 with (first
      | ((with_reducible refine wpList_storeBag w1.heap.size c zBag 29 ?_ ?_ ?_ ?_ ?_ ?_ ?_); rfl; rfl; exact Box.new w1 zBag 29 rfl; exact ZS.out; exact CS.out; exact V1.out.one)
      | fail)
    obtain ⟨q, hq⟩ : ∃ x, w1.heap.size = x := ⟨_, rfl⟩
    obtain ⟨W, hW⟩ : ∃ W, (w1.alloc (.cells zBag 29)).setRow q c = W := ⟨_, rfl⟩
    have B1 : Hid (Box W q c 29) := Lib.hid (by rw [← hW]; exact Box.rowSame (Box.new w1 zBag 29 hq.symm))
    have BW1 : Hid (Below w.heap.size w W) := Lib.hid (by rw [← hW]; exact below_row (BW.out.alloc BW.out.size _) (by have := BW.out.size; omega) _)
    have R2 : Hid (PS W (.slice ra m rc) L) := Lib.hid (by rw [← hW]; exact Row3.ps (own_row (R1.out.below (below1 w1 (.cells zBag 29))) (Box.new w1 zBag 29 hq.symm) (by decide)))
    rw [hq, hW]
    clear hW hq BW R1 zv
    have U1 := Lib.hid (HU.out.below BW1.out)
    have Z1 := Lib.hid (HZ.out.below BW1.out)
    have U := U1
    have Z := Z1
    clear HV
    clear U1 Z1
    have hc2 := U.out.cap
    have hc3 := Z.out.cap
    obtain ⟨h2, hh2⟩ : ∃ h, n2 / 2 = h := ⟨_, rfl⟩
    obtain ⟨h3, hh3⟩ : ∃ h, n3 / 2 = h := ⟨_, rfl⟩
    have t2 := tdiv2 n2
    have t3 := tdiv2 n3
    rw [hh2] at t2
    rw [hh3] at t3
    have g2 : h2 ≤ n2 := by omega
    have g3 : h3 ≤ n3 := by omega
    have g2' : h2 ≤ c2 := by omega
    have g3' : h3 ≤ c3 := by omega
    clear hh2 hh3
    have wr2 : IntKind.i64.wrap (h2 : Int) = (h2 : Int) := IntWalk.i64_in _ (by omega)
    have wr3 : IntKind.i64.wrap (h3 : Int) = (h3 : Int) := IntWalk.i64_in _ (by omega)
    have SA := Lib.hid (U.out.take g2)
    have SB := Lib.hid (Z.out.take g3)
    obtain ⟨lc, rfl⟩ : ∃ lc : List Value, c = lc.toArray := ⟨c.toList, by simp⟩
    refine wp_region_held_drew (S := fun wz => wz.rangeAt q 0 lc) (by kernel_rfl) (by rw [World.rangeAt_drew]; exact box_range B1.out) (fun hHeld => ?_)
    have RI : Hid (Below W.heap.size W W.drew) := Lib.hid ((Below.refl _ _).drew)
    replace B1 := Lib.hid (B1.out.below RI.out)
    replace BW1 := Lib.hid (BW1.out.trans (RI.out.mono BW1.out.size))
    replace U := Lib.hid (U.out.below RI.out)
    replace Z := Lib.hid (Z.out.below RI.out)
    replace SA := Lib.hid (SA.out.below RI.out)
    replace SB := Lib.hid (SB.out.below RI.out)
    clear RI R2
    generalize World.drew W = V at B1 BW1 U Z SA SB hHeld ⊢
    have HINF : Hid ((Try.prog.info? 29).map (·.size) = some lc.length) := Lib.hid (by have e := V1.out.size; rw [List.size_toArray] at e; rw [e]; exact infoBag)
    refine wpAnyH_take (i := 0) (oi := { dst := some 32, op := Op.load 29 (Operand.tmp 7), type := 29, pos := "law.go:158", after := #[], guard := none }) (v := .agg lc.toArray) rfl (by kernel_rfl) (by kernel_rfl) (by kernel_rfl) (fun _ _ _ h => h) (yieldsIf_load_mid (by rfl) 29 (.tmp 7) rfl q 0 rfl lc _ (fun _ h => h) Try.underlying29 rfl HINF.out) (by assumption) ?_
    (try simp only [Act.put])
    (try simp only [List.setIfInBounds_toArray])
    (try simp only [List.set_cons_succ])
    (try simp only [List.set_cons_zero])
    refine wpAnyH_take (i := 1) (oi := { dst := some 33, op := Op.move (Operand.tmp 1), type := 38, pos := "law.go:158", after := #[], guard := none }) (v := ?v1) rfl (by kernel_rfl) (by kernel_rfl) (by kernel_rfl) (fun _ _ _ h => h) (Or.inl ⟨by rfl, ?y1⟩) (by assumption) ?r1
    case y1 => (intro w hSw; (try dsimp only at hSw); go_simp; try with_reducible rfl)
    (try simp only [Act.put])
    (try simp only [List.setIfInBounds_toArray])
    (try simp only [List.set_cons_succ])
    (try simp only [List.set_cons_zero])
    refine wpAnyH_take (i := 2) (oi := { dst := some 34, op := Op.move (Operand.tmp 1), type := 38, pos := "law.go:158", after := #[], guard := none }) (v := ?v2) rfl (by kernel_rfl) (by kernel_rfl) (by kernel_rfl) (fun _ _ _ h => h) (Or.inl ⟨by rfl, ?y2⟩) (by assumption) ?r2
    case y2 => (intro w hSw; (try dsimp only at hSw); go_simp; try with_reducible rfl)
    (try simp only [Act.put])
    (try simp only [List.setIfInBounds_toArray])
    (try simp only [List.set_cons_succ])
    (try simp only [List.set_cons_zero])
    refine wpAnyH_take (i := 3) (oi := { dst := some 35, op := Op.call { callee := Callee.builtin Builtin.len, args := #[Operand.tmp 34], argTypes := #[38] }, type := 3, pos := "law.go:158", after := #[{ on := 2, ground := Ground.data }], guard := none }) (v := ?v3) rfl (by kernel_rfl) (by kernel_rfl) (by kernel_rfl) (fun _ _ _ h => h) (Or.inl ⟨by rfl, ?y3⟩) (by assumption) ?r3
    case y3 => (intro w hSw; (try dsimp only at hSw); go_simp; try with_reducible rfl)
    (try simp only [Act.put])
    (try simp only [List.setIfInBounds_toArray])
    (try simp only [List.set_cons_succ])
    (try simp only [List.set_cons_zero])
    refine wpAnyH_take (i := 4) (oi := { dst := some 36, op := Op.binOp BinOp.quo 3 (Operand.tmp 35) (Operand.const (Value.int IntKind.i64 2)) 3, type := 3, pos := "law.go:158", after := #[{ on := 3, ground := Ground.data }], guard := none }) (v := ?v4) rfl (by kernel_rfl) (by kernel_rfl) (by kernel_rfl) (fun _ _ _ h => h) (Or.inl ⟨by rfl, ?y4⟩) (by assumption) ?r4
    case y4 => (intro w hSw; (try dsimp only at hSw); go_simp; try with_reducible rfl)
    (try simp only [Act.put])
    (try simp only [List.setIfInBounds_toArray])
    (try simp only [List.set_cons_succ])
    (try simp only [List.set_cons_zero])
    refine wpAnyH_take (i := 5) (oi := { dst := some 37, op := Op.slice 38 (Operand.tmp 33) none (some (Operand.tmp 36)) none, type := 38, pos := "law.go:158", after := #[{ on := 1, ground := Ground.data }, { on := 4, ground := Ground.data }], guard := none }) (v := ?v5) rfl (by kernel_rfl) (by kernel_rfl) (by kernel_rfl) (fun _ _ _ h => h) (Or.inl ⟨by rfl, ?y5⟩) (by assumption) ?r5
    case y5 => (intro w hSw; (try dsimp only at hSw); go_simp; try with_reducible rfl)
    (try simp only [Act.put])
    (try simp only [List.setIfInBounds_toArray])
    (try simp only [List.set_cons_succ])
    (try simp only [List.set_cons_zero])
    refine wpAnyH_take (i := 6) (oi := { dst := some 38, op := Op.move (Operand.tmp 2), type := 38, pos := "law.go:158", after := #[], guard := none }) (v := ?v6) rfl (by kernel_rfl) (by kernel_rfl) (by kernel_rfl) (fun _ _ _ h => h) (Or.inl ⟨by rfl, ?y6⟩) (by assumption) ?r6
    case y6 => (intro w hSw; (try dsimp only at hSw); go_simp; try with_reducible rfl)
    (try simp only [Act.put])
    (try simp only [List.setIfInBounds_toArray])
    (try simp only [List.set_cons_succ])
    (try simp only [List.set_cons_zero])
    refine wpAnyH_take (i := 7) (oi := { dst := some 39, op := Op.move (Operand.tmp 2), type := 38, pos := "law.go:158", after := #[], guard := none }) (v := ?v7) rfl (by kernel_rfl) (by kernel_rfl) (by kernel_rfl) (fun _ _ _ h => h) (Or.inl ⟨by rfl, ?y7⟩) (by assumption) ?r7
    case y7 => (intro w hSw; (try dsimp only at hSw); go_simp; try with_reducible rfl)
    (try simp only [Act.put])
    (try simp only [List.setIfInBounds_toArray])
    (try simp only [List.set_cons_succ])
    (try simp only [List.set_cons_zero])
    refine wpAnyH_take (i := 8) (oi := { dst := some 40, op := Op.call { callee := Callee.builtin Builtin.len, args := #[Operand.tmp 39], argTypes := #[38] }, type := 3, pos := "law.go:158", after := #[{ on := 7, ground := Ground.data }], guard := none }) (v := ?v8) rfl (by kernel_rfl) (by kernel_rfl) (by kernel_rfl) (fun _ _ _ h => h) (Or.inl ⟨by rfl, ?y8⟩) (by assumption) ?r8
    case y8 => (intro w hSw; (try dsimp only at hSw); go_simp; try with_reducible rfl)
    (try simp only [Act.put])
    (try simp only [List.setIfInBounds_toArray])
    (try simp only [List.set_cons_succ])
    (try simp only [List.set_cons_zero])
    refine wpAnyH_take (i := 9) (oi := { dst := some 41, op := Op.binOp BinOp.quo 3 (Operand.tmp 40) (Operand.const (Value.int IntKind.i64 2)) 3, type := 3, pos := "law.go:158", after := #[{ on := 8, ground := Ground.data }], guard := none }) (v := ?v9) rfl (by kernel_rfl) (by kernel_rfl) (by kernel_rfl) (fun _ _ _ h => h) (Or.inl ⟨by rfl, ?y9⟩) (by assumption) ?r9
    case y9 => (intro w hSw; (try dsimp only at hSw); go_simp; try with_reducible rfl)
    (try simp only [Act.put])
    (try simp only [List.setIfInBounds_toArray])
    (try simp only [List.set_cons_succ])
    (try simp only [List.set_cons_zero])
    refine wpAnyH_take (i := 10) (oi := { dst := some 42, op := Op.slice 38 (Operand.tmp 38) none (some (Operand.tmp 41)) none, type := 38, pos := "law.go:158", after := #[{ on := 6, ground := Ground.data }, { on := 9, ground := Ground.data }], guard := none }) (v := ?v10) rfl (by kernel_rfl) (by kernel_rfl) (by kernel_rfl) (fun _ _ _ h => h) (Or.inl ⟨by rfl, ?y10⟩) (by assumption) ?r10
    case y10 => (intro w hSw; (try dsimp only at hSw); go_simp; try with_reducible rfl)
    (try simp only [Act.put])
    (try simp only [List.setIfInBounds_toArray])
    (try simp only [List.set_cons_succ])
    (try simp only [List.set_cons_zero])
    have zv := zero29
    refine wpAnyH_ready (rs := [11, 15]) (by kernel_rfl) (by simp) ?_
    refine AllReadyH.cons (o := { dst := some 43, op := Op.call { callee := Callee.value (Operand.func 15), args := #[Operand.tmp 32, Operand.tmp 37, Operand.tmp 42], argTypes := #[29, 38, 38] }, type := 45, pos := "law.go:158", after := #[{ on := 0, ground := Ground.data }, { on := 5, ground := Ground.data }, { on := 10, ground := Ground.data }], guard := none }) rfl (fun K hK => ?_) (AllReadyH.cons (o := { dst := some 10, op := Op.alloc 29, type := 0, pos := "law.go:158", after := #[], guard := none }) rfl (fun K hK => ?_) AllReadyH.nil)

    · go_simp
      go_at_call 15
      refine (sweep_any lc.toArray L _ _ (A.take h2) (P.take h3) _ V1.out HG.out SA.out SB.out (by rw [List.length_take, H2.out]; omega) (by rw [List.length_take, H3.out]; omega) (fun x hx => OP.out x (List.mem_of_mem_take hx))).mono ?_
      rintro e w4 ⟨cd, fv, F, rfl, k1, k2, -, -, hb⟩
      have HSUB := Lib.hid (filter_half (A := A) (P := P) (L := L) h2 h3)
      obtain ⟨K1, hK1⟩ : ∃ K, L.filter (protB (A.take h2) (P.take h3)) = K := ⟨_, rfl⟩
      rw [hK1] at k1 HSUB
      clear hK1
      have V2 := Lib.hid k1
      have CS2 := Lib.hid k1.size
      have B := Lib.hid (B1.out.below hb)
      have BW := Lib.hid (BW1.out.trans (hb.mono BW1.out.size))
      replace U := Lib.hid (U.out.below hb)
      replace Z := Lib.hid (Z.out.below hb)
      clear k1 k2 hb B1 BW1
      go_simp
      refine hK.out _ _ ?_ (fun hHeld => ?_)
      · exact box_range B.out
      clear hK K
      (try simp only [Act.put])
      (try simp only [List.setIfInBounds_toArray])
      (try simp only [List.set_cons_succ])
      (try simp only [List.set_cons_zero])
      refine wpAnyH_take (i := 12) (oi := { dst := some 31, op := Op.move (Operand.tmp 43), type := 45, pos := "law.go:158", after := #[{ on := 11, ground := Ground.data }], guard := none }) (v := ?v12a) rfl (by kernel_rfl) (by kernel_rfl) (by kernel_rfl) (fun _ _ _ h => h) (Or.inl ⟨by rfl, ?y12a⟩) (by assumption) ?r12a
      case y12a => (intro w hSw; (try dsimp only at hSw); go_simp; try with_reducible rfl)
      (try simp only [Act.put])
      (try simp only [List.setIfInBounds_toArray])
      (try simp only [List.set_cons_succ])
      (try simp only [List.set_cons_zero])
      refine wpAnyH_take (i := 13) (oi := { dst := some 44, op := Op.extract (Operand.tmp 31) 0, type := 29, pos := "law.go:158", after := #[{ on := 12, ground := Ground.data }], guard := none }) (v := ?v13a) rfl (by kernel_rfl) (by kernel_rfl) (by kernel_rfl) (fun _ _ _ h => h) (Or.inl ⟨by rfl, ?y13a⟩) (by assumption) ?r13a
      case y13a => (intro w hSw; (try dsimp only at hSw); go_simp; try with_reducible rfl)
      (try simp only [Act.put])
      (try simp only [List.setIfInBounds_toArray])
      (try simp only [List.set_cons_succ])
      (try simp only [List.set_cons_zero])
      refine wpAnyH_take (i := 14) (oi := { dst := some 45, op := Op.extract (Operand.tmp 31) 1, type := 44, pos := "law.go:158", after := #[{ on := 12, ground := Ground.data }, { on := 16, ground := Ground.gcOnly Departure.lateStores }], guard := none }) (v := ?v14a) rfl (by kernel_rfl) (by kernel_rfl) (by kernel_rfl) (fun _ _ _ h => h) (Or.inl ⟨by rfl, ?y14a⟩) (by assumption) ?r14a
      case y14a => (intro w hSw; (try dsimp only at hSw); go_simp; try with_reducible rfl)
      (try simp only [Act.put])
      (try simp only [List.setIfInBounds_toArray])
      (try simp only [List.set_cons_succ])
      (try simp only [List.set_cons_zero])
      refine wpAnyH_ready (rs := [15]) (by kernel_rfl) (by simp) ?_
      refine AllReadyH.cons (o := { dst := some 10, op := Op.alloc 29, type := 0, pos := "law.go:158", after := #[], guard := none }) rfl (fun K hK => ?_) AllReadyH.nil
      go_simp
      have ltq := B.out.lt
      have hbw := BW.out.size
      have NB0 := Lib.hid (Box.new w4 zBag 29 rfl)
      obtain ⟨nb, hnb⟩ : ∃ x, w4.heap.size = x := ⟨_, rfl⟩
      have hqn : Hid (q ≠ nb) := Lib.hid (by omega)
      have hnbw : Hid (w.heap.size ≤ nb) := Lib.hid (by omega)
      replace B := Lib.hid (B.out.alloc (.cells zBag 29))
      replace BW := Lib.hid (BW.out.alloc BW.out.size (.cells zBag 29))
      rw [hnb] at NB0
      have NB := NB0
      clear NB0
      refine hK.out _ _ ?_ (fun hHeld => ?_)
      · exact box_range B.out
      clear hK K
      rw [hnb]
      clear hnb ltq hbw zv
      (try simp only [Act.put])
      (try simp only [List.setIfInBounds_toArray])
      (try simp only [List.set_cons_succ])
      (try simp only [List.set_cons_zero])
      refine wpAnyH_ready (rs := [16]) (by kernel_rfl) (by simp) ?_
      refine AllReadyH.cons (o := { dst := none, op := Op.store 29 (Operand.tmp 10) (Operand.tmp 44), type := 0, pos := "law.go:158", after := #[{ on := 15, ground := Ground.data }, { on := 13, ground := Ground.data }, { on := 11, ground := Ground.chain }, { on := 0, ground := Ground.phase }, { on := 1, ground := Ground.phase }, { on := 2, ground := Ground.phase }, { on := 3, ground := Ground.phase }, { on := 4, ground := Ground.phase }, { on := 5, ground := Ground.phase }, { on := 6, ground := Ground.phase }, { on := 7, ground := Ground.phase }, { on := 8, ground := Ground.phase }, { on := 9, ground := Ground.phase }, { on := 10, ground := Ground.phase }, { on := 11, ground := Ground.phase }, { on := 12, ground := Ground.phase }, { on := 13, ground := Ground.phase }, { on := 14, ground := Ground.textOnly Departure.lateStores }, { on := 15, ground := Ground.phase }], guard := none }) rfl (fun K hK => ?_) AllReadyH.nil
      rw [if_pos (by rfl)]
      refine wp_store_row 29 (.tmp 10) (.tmp 44) rfl nb cd rfl rfl 29 zBag NB.out (by rw [CS2.out]; exact infoBag) (ZS.out.trans CS2.out.symm) V2.out.one ?_
      replace BW := Lib.hid (below_row BW.out (cs := cd) hnbw.out)
      replace B := Lib.hid (B.out.row (ds := cd) hqn.out)
      replace NB := Lib.hid (NB.out.rowSame (ds := cd))
      replace U := Lib.hid (HU.out.below BW.out)
      replace Z := Lib.hid (HZ.out.below BW.out)
      refine hK.out _ _ ?_ (fun hHeld => ?_)
      · exact box_range B.out
      clear hK K
      (try simp only [Act.put])
      (try simp only [List.setIfInBounds_toArray])
      (try simp only [List.set_cons_succ])
      (try simp only [List.set_cons_zero])

      refine wpAnyH_ready (rs := [17]) (by kernel_rfl) (by simp) ?_
      refine AllReadyH.cons (o := { dst := some 11, op := Op.assign (Operand.tmp 45), type := 44, pos := "law.go:158", after := #[{ on := 14, ground := Ground.data }, { on := 16, ground := Ground.chain }, { on := 0, ground := Ground.phase }, { on := 1, ground := Ground.phase }, { on := 2, ground := Ground.phase }, { on := 3, ground := Ground.phase }, { on := 4, ground := Ground.phase }, { on := 5, ground := Ground.phase }, { on := 6, ground := Ground.phase }, { on := 7, ground := Ground.phase }, { on := 8, ground := Ground.phase }, { on := 9, ground := Ground.phase }, { on := 10, ground := Ground.phase }, { on := 11, ground := Ground.phase }, { on := 12, ground := Ground.phase }, { on := 13, ground := Ground.phase }, { on := 14, ground := Ground.phase }, { on := 15, ground := Ground.phase }, { on := 16, ground := Ground.phase }], guard := none }) rfl (fun K hK => ?_) AllReadyH.nil
      go_simp
      refine hK.out _ _ ?_ (fun hHeld => ?_)
      · exact box_range B.out
      clear hK K
      (try simp only [Act.put])
      (try simp only [List.setIfInBounds_toArray])
      (try simp only [List.set_cons_succ])
      (try simp only [List.set_cons_zero])

      refine wpAnyH_done (by kernel_rfl) ?_ _
      clear hHeld

      have zv := zero29
      have CS1 := Lib.hid V1.out.size
      go_wp2_with (first
        | ((with_reducible refine wpList_loadBag q lc.toArray 29 ?_ ?_ ?_ ?_); rfl; exact B.out; exact CS1.out)
        | fail)
      refine (sweep_any lc.toArray L _ _ A P _ V1.out HG.out U.out Z.out (by rw [H2.out]; omega) (by rw [H3.out]; omega) OP.out).mono ?_
      rintro e w5 ⟨ce, gv, G, rfl, k1, k2, -, -, hb⟩
      obtain ⟨K2, hK2⟩ : ∃ K, L.filter (protB A P) = K := ⟨_, rfl⟩
      have HK6 : Hid (∀ x ∈ K2, I643 x) := Lib.hid (by rw [← hK2]; exact fun x hx => HS6.out x (List.mem_filter.1 hx).1)
      rw [hK2] at k1 HSUB
      clear hK2
      have V3 := Lib.hid k1
      have CS3 := Lib.hid k1.size
      have h64 := k1.len
      have h64b := V2.out.len
      have NB5 := Lib.hid (NB.out.below hb)
      have BW5 := Lib.hid (BW.out.trans (hb.mono BW.out.size))
      clear k1 k2 hb B NB BW U Z
      go_upto_region 6 with (first
        | ((with_reducible refine wpList_storeBag w5.heap.size ce zBag 29 ?_ ?_ ?_ ?_ ?_ ?_ ?_); rfl; rfl; exact Box.new w5 zBag 29 rfl; exact ZS.out; exact CS3.out; exact V3.out.one)
        | fail)
      obtain ⟨s, hs⟩ : ∃ x, w5.heap.size = x := ⟨_, rfl⟩
      obtain ⟨Y, hY⟩ : ∃ W, (w5.alloc (.cells zBag 29)).setRow s ce = W := ⟨_, rfl⟩
      have M6 : Hid (Box Y s ce 29) := Lib.hid (by rw [← hY]; exact Box.rowSame (Box.new w5 zBag 29 hs.symm))
      have BY : Hid (Below w5.heap.size w5 Y) := Lib.hid (by rw [← hY]; exact below_row (below1 w5 _) (by omega) _)
      have NB6 := Lib.hid (NB5.out.below BY.out)
      have BW6 := Lib.hid (BW5.out.trans (BY.out.mono BW5.out.size))
      rw [hs, hY]
      clear hs hY BY NB5 BW5 zv
      have mk := run_mkmapI
      go_upto_region 7 with fail
      clear mk
      obtain ⟨g, hg⟩ : ∃ x, Y.heap.size = x := ⟨_, rfl⟩
      obtain ⟨X, hX⟩ : ∃ X, Y.alloc (.map #[] 0) = X := ⟨_, rfl⟩
      have M0 : Hid (MapI X g 0 []) := Lib.hid (by rw [← hX, ← hg]; exact MapI.made Y)
      have BX : Hid (Below Y.heap.size Y X) := Lib.hid (by rw [← hX]; exact below1 Y _)
      have HGQ := Lib.hid hg
      have M7 := Lib.hid (M6.out.below BX.out)
      rw [hX, hg]
      clear hX hg
      go_wp2_with (first
        | ((with_reducible refine wpList_loadBag s ce 29 ?_ ?_ ?_ ?_); rfl; exact M7.out; exact CS3.out)
        | fail)
      refine (items_any ce K2 X V3.out).mono ?_
      rintro e w6 ⟨iv, rfl, hr, hb⟩
      obtain ⟨ia, ic, rfl⟩ := hr.form
      obtain ⟨m2, hm2⟩ : ∃ m, K2.length = m := ⟨_, rfl⟩
      have P6 := Lib.hid hr.ps
      rw [hm2] at P6 h64 ⊢
      have HM2 := Lib.hid hm2
      have M6' := Lib.hid (M0.out.below hb)
      have BX6 := Lib.hid (BX.out.trans (hb.mono BX.out.size))
      have B6 := Lib.hid (Below.refl w6.heap.size w6)
      clear hr hb hm2 M0 BX M7
      go_wp2_with fail
      have hgs : Hid (Y.heap.size ≤ g) := Lib.hid (Nat.le_of_eq HGQ.out)
      obtain ⟨wq, rfl⟩ : ∃ wq, wq = w6 := ⟨_, rfl⟩
      go_loopw [57] (fun iv wr => ∃ k : Nat, k ≤ m2 ∧ iv = .int .i64 k ∧ MapI wr g k (K2.take k) ∧ Below Y.heap.size Y wr ∧ PS wr (.slice ia m2 ic) K2) (fun iv _ => m2 - (intOf iv).toNat)
      case atStart => exact ⟨0, by omega, rfl, M6'.out, BX6.out, P6.out⟩
      case round =>
        obtain ⟨k, hk, rfl, hM, hb, hP⟩ := hrel
        have MI := Lib.hid hM
        have BZ := Lib.hid hb
        have PP := Lib.hid hP
        clear hM hb hP M6' BX6 P6 B6
        by_cases hlt : k < m2
        · obtain ⟨b, off, rfl, hbl, hc⟩ := PP.out.addr hlt
          obtain ⟨c0, c1', c2'⟩ := hc k hlt
          have hy6 := HK6.out _ (getD_mem3 (L := K2) (k := k) (by rw [HM2.out]; exact hlt))
          have HT := Lib.hid (take_succ_getD3 K2 (k := k) (by rw [HM2.out]; exact hlt))
          clear hc
          obtain ⟨y, hy⟩ : ∃ y, K2.getD k zIt = y := ⟨_, rfl⟩
          rw [hy] at c0 c1' c2' hy6 HT
          clear hy
          obtain ⟨y0, y1, y2⟩ := y
          simp only at c0 c1' c2'
          obtain ⟨wo, rfl⟩ : ∃ wo, wo = wr := ⟨_, rfl⟩
          go_upto_region 10 with fail
          obtain ⟨W2, hW2⟩ : ∃ W2, wo.alloc (.cells #[.int .i64 y0, .int .i64 y1, .int .i64 y2] 26) = W2 := ⟨_, rfl⟩
          obtain ⟨xb, hxb⟩ : ∃ g, wo.heap.size = g := ⟨_, rfl⟩
          have XB : Hid (Box W2 xb #[.int .i64 y0, .int .i64 y1, .int .i64 y2] 26) := Lib.hid (by rw [← hW2]; exact Box.new wo _ 26 hxb.symm)
          have RI : Hid (Below wo.heap.size wo W2) := Lib.hid (by rw [← hW2]; exact below1 wo _)
          replace MI := Lib.hid (MI.out.below RI.out)
          replace PP := Lib.hid (PP.out.below RI.out)
          replace BZ := Lib.hid (BZ.out.trans (RI.out.mono BZ.out.size))
          rw [hW2, hxb]
          clear hW2 hxb c0 c1' c2' RI
          have z0 := XB.out.cell 0
          have z1 := XB.out.cell 1
          have z2 := XB.out.cell 2
          simp at z0 z1 z2
          go_wp2_with (first
            | (at_mapUpdate; refine wpList_markI _ rfl _ _ _ rfl g k (K2.take k) rfl MI.out (by omega) (y0, y1, y2) rfl rfl hy6 ?_; intro w8 m8 g8; have M8 := Lib.hid m8; have B8 := Lib.hid (below_mark BZ.out BZ.out.size hgs.out g8); have P8 := Lib.hid (PP.out.marked MI.out g8); clear m8 g8)
            | fail)
          go_roundw
          case rel => exact ⟨k + 1, by omega, by go_num, by rw [HT.out]; exact M8.out, B8.out, P8.out⟩
          case measure => simp [intOf]; omega
        · obtain rfl : k = m2 := by omega
          have LT : Hid (K2.take k = K2) := Lib.hid (List.take_of_length_le (by rw [HM2.out]; exact Nat.le_refl _))
          rw [LT.out] at MI
          clear LT PP
          have NB7 := Lib.hid (NB6.out.below BZ.out)
          have BW7 := Lib.hid (BW6.out.trans (BZ.out.mono BW6.out.size))
          go_wp2_with (first
            | ((with_reducible refine wpList_loadBag nb cd 29 ?_ ?_ ?_ ?_); rfl; exact NB7.out; exact CS2.out)
            | fail)
          refine (items_any cd K1 wr V2.out).mono ?_
          rintro e w7 ⟨jv, rfl, hr, hb⟩
          obtain ⟨ja, jc, rfl⟩ := hr.form
          obtain ⟨m1, hm1⟩ : ∃ m, K1.length = m := ⟨_, rfl⟩
          have P7 := Lib.hid hr.ps
          rw [hm1] at P7 h64b ⊢
          have HM1 := Lib.hid hm1
          have M7 := Lib.hid (MI.out.below hb)
          have BW8 := Lib.hid (BW7.out.trans (hb.mono BW7.out.size))
          clear hr hb hm1 MI BW7 NB7
          go_wp2_with fail
          obtain ⟨wo, rfl⟩ : ∃ wo, wo = w7 := ⟨_, rfl⟩
          go_loopw [67] (fun iv wr => ∃ j : Nat, j ≤ m1 ∧ iv = .int .i64 j ∧ Below wo.heap.size wo wr) (fun iv _ => m1 - (intOf iv).toNat)
          case atStart => exact ⟨0, by omega, rfl, Below.refl _ _⟩
          case round =>
            obtain ⟨j, hj, rfl, hb⟩ := hrel
            have BV9 := Lib.hid hb
            clear hb
            by_cases hlt : j < m1
            · obtain ⟨b, off, rfl, hbl, hc⟩ := P7.out.addr hlt
              obtain ⟨c0, c1', c2'⟩ := hc j hlt
              rw [← BV9.out.cell (p := ⟨b, _, none⟩) hbl] at c0 c1' c2'
              have hmem := HSUB.out _ (getD_mem3 (L := K1) (k := j) (by rw [HM1.out]; exact hlt))
              have hy6 := HK6.out _ hmem
              have hin := (inI_iff _ _).2 hmem
              clear hc hmem
              obtain ⟨y, hy⟩ : ∃ y, K1.getD j zIt = y := ⟨_, rfl⟩
              rw [hy] at c0 c1' c2' hy6 hin
              clear hy
              obtain ⟨y0, y1, y2⟩ := y
              simp only at c0 c1' c2'
              obtain ⟨wi, rfl⟩ : ∃ wo, wo = wr := ⟨_, rfl⟩
              go_upto_region 15 with fail
              obtain ⟨W2, hW2⟩ : ∃ W2, wi.alloc (.cells #[.int .i64 y0, .int .i64 y1, .int .i64 y2] 26) = W2 := ⟨_, rfl⟩
              obtain ⟨xb, hxb⟩ : ∃ g, wi.heap.size = g := ⟨_, rfl⟩
              have XB : Hid (Box W2 xb #[.int .i64 y0, .int .i64 y1, .int .i64 y2] 26) := Lib.hid (by rw [← hW2]; exact Box.new wi _ 26 hxb.symm)
              have RI : Hid (Below wi.heap.size wi W2) := Lib.hid (by rw [← hW2]; exact below1 wi _)
              replace BV9 := Lib.hid (BV9.out.trans (RI.out.mono BV9.out.size))
              have lk := (M7.out.below BV9.out).look _ hy6
              rw [hin] at lk
              unfold itV at lk
              simp only at lk
              rw [hW2, hxb]
              clear hW2 hxb c0 c1' c2' RI hin hy6
              have z0 := XB.out.cell 0
              have z1 := XB.out.cell 1
              have z2 := XB.out.cell 2
              simp at z0 z1 z2
              go_wp2_with fail
              go_roundw
              case rel => exact ⟨j + 1, by omega, by go_num, BV9.out⟩
              case measure => simp [intOf]; omega
            · obtain rfl : j = m1 := by omega
              go_wp2_with fail
              refine (awake_any wr).mono ?_
              rintro e w9 ⟨rfl, hb⟩
              have BE := Lib.hid (BW8.out.trans ((BV9.out.trans (hb.mono BV9.out.size)).mono BW8.out.size))
              clear hb
              go_wp2_with fail
              go_ret
              exact ⟨rfl, BE.out⟩
    · go_simp
      have ltq := B1.out.lt
      have hbw := BW1.out.size
      have NB0 := Lib.hid (Box.new V zBag 29 rfl)
      obtain ⟨nb, hnb⟩ : ∃ x, V.heap.size = x := ⟨_, rfl⟩
      have hqn : Hid (q ≠ nb) := Lib.hid (by omega)
      have hnbw : Hid (w.heap.size ≤ nb) := Lib.hid (by omega)
      have RI := Lib.hid (below1 V (.cells zBag 29))
      replace B1 := Lib.hid (B1.out.below RI.out)
      replace BW1 := Lib.hid (BW1.out.trans (RI.out.mono BW1.out.size))
      replace U := Lib.hid (U.out.below RI.out)
      replace Z := Lib.hid (Z.out.below RI.out)
      replace SA := Lib.hid (SA.out.below RI.out)
      replace SB := Lib.hid (SB.out.below RI.out)
      rw [hnb] at NB0
      have B := B1
      refine hK.out _ _ ?_ (fun hHeld => ?_)
      · exact box_range B.out
      clear hK K
      (try simp only [Act.put])
      (try simp only [List.setIfInBounds_toArray])
      (try simp only [List.set_cons_succ])
      (try simp only [List.set_cons_zero])

      rw [hnb]
      clear hnb ltq hbw zv RI B
      refine wpAnyH_ready (rs := [11]) (by kernel_rfl) (by simp) ?_
      refine AllReadyH.cons (o := { dst := some 43, op := Op.call { callee := Callee.value (Operand.func 15), args := #[Operand.tmp 32, Operand.tmp 37, Operand.tmp 42], argTypes := #[29, 38, 38] }, type := 45, pos := "law.go:158", after := #[{ on := 0, ground := Ground.data }, { on := 5, ground := Ground.data }, { on := 10, ground := Ground.data }], guard := none }) rfl (fun K hK => ?_) AllReadyH.nil
      go_simp
      go_at_call 15
      refine (sweep_any lc.toArray L _ _ (A.take h2) (P.take h3) _ V1.out HG.out SA.out SB.out (by rw [List.length_take, H2.out]; omega) (by rw [List.length_take, H3.out]; omega) (fun x hx => OP.out x (List.mem_of_mem_take hx))).mono ?_
      rintro e w4 ⟨cd, fv, F, rfl, k1, k2, -, -, hb⟩
      have HSUB := Lib.hid (filter_half (A := A) (P := P) (L := L) h2 h3)
      obtain ⟨K1, hK1⟩ : ∃ K, L.filter (protB (A.take h2) (P.take h3)) = K := ⟨_, rfl⟩
      rw [hK1] at k1 HSUB
      clear hK1
      have V2 := Lib.hid k1
      have CS2 := Lib.hid k1.size
      have B := Lib.hid (B1.out.below hb)
      have BW := Lib.hid (BW1.out.trans (hb.mono BW1.out.size))
      replace U := Lib.hid (U.out.below hb)
      replace Z := Lib.hid (Z.out.below hb)
      have NB := Lib.hid (NB0.out.below hb)
      clear k1 k2 hb B1 BW1 NB0
      go_simp
      refine hK.out _ _ ?_ (fun hHeld => ?_)
      · exact box_range B.out
      clear hK K
      (try simp only [Act.put])
      (try simp only [List.setIfInBounds_toArray])
      (try simp only [List.set_cons_succ])
      (try simp only [List.set_cons_zero])
      refine wpAnyH_take (i := 12) (oi := { dst := some 31, op := Op.move (Operand.tmp 43), type := 45, pos := "law.go:158", after := #[{ on := 11, ground := Ground.data }], guard := none }) (v := ?v12b) rfl (by kernel_rfl) (by kernel_rfl) (by kernel_rfl) (fun _ _ _ h => h) (Or.inl ⟨by rfl, ?y12b⟩) (by assumption) ?r12b
      case y12b => (intro w hSw; (try dsimp only at hSw); go_simp; try with_reducible rfl)
      (try simp only [Act.put])
      (try simp only [List.setIfInBounds_toArray])
      (try simp only [List.set_cons_succ])
      (try simp only [List.set_cons_zero])
      refine wpAnyH_take (i := 13) (oi := { dst := some 44, op := Op.extract (Operand.tmp 31) 0, type := 29, pos := "law.go:158", after := #[{ on := 12, ground := Ground.data }], guard := none }) (v := ?v13b) rfl (by kernel_rfl) (by kernel_rfl) (by kernel_rfl) (fun _ _ _ h => h) (Or.inl ⟨by rfl, ?y13b⟩) (by assumption) ?r13b
      case y13b => (intro w hSw; (try dsimp only at hSw); go_simp; try with_reducible rfl)
      (try simp only [Act.put])
      (try simp only [List.setIfInBounds_toArray])
      (try simp only [List.set_cons_succ])
      (try simp only [List.set_cons_zero])
      refine wpAnyH_take (i := 14) (oi := { dst := some 45, op := Op.extract (Operand.tmp 31) 1, type := 44, pos := "law.go:158", after := #[{ on := 12, ground := Ground.data }, { on := 16, ground := Ground.gcOnly Departure.lateStores }], guard := none }) (v := ?v14b) rfl (by kernel_rfl) (by kernel_rfl) (by kernel_rfl) (fun _ _ _ h => h) (Or.inl ⟨by rfl, ?y14b⟩) (by assumption) ?r14b
      case y14b => (intro w hSw; (try dsimp only at hSw); go_simp; try with_reducible rfl)
      (try simp only [Act.put])
      (try simp only [List.setIfInBounds_toArray])
      (try simp only [List.set_cons_succ])
      (try simp only [List.set_cons_zero])
      refine wpAnyH_ready (rs := [16]) (by kernel_rfl) (by simp) ?_
      refine AllReadyH.cons (o := { dst := none, op := Op.store 29 (Operand.tmp 10) (Operand.tmp 44), type := 0, pos := "law.go:158", after := #[{ on := 15, ground := Ground.data }, { on := 13, ground := Ground.data }, { on := 11, ground := Ground.chain }, { on := 0, ground := Ground.phase }, { on := 1, ground := Ground.phase }, { on := 2, ground := Ground.phase }, { on := 3, ground := Ground.phase }, { on := 4, ground := Ground.phase }, { on := 5, ground := Ground.phase }, { on := 6, ground := Ground.phase }, { on := 7, ground := Ground.phase }, { on := 8, ground := Ground.phase }, { on := 9, ground := Ground.phase }, { on := 10, ground := Ground.phase }, { on := 11, ground := Ground.phase }, { on := 12, ground := Ground.phase }, { on := 13, ground := Ground.phase }, { on := 14, ground := Ground.textOnly Departure.lateStores }, { on := 15, ground := Ground.phase }], guard := none }) rfl (fun K hK => ?_) AllReadyH.nil
      rw [if_pos (by rfl)]
      refine wp_store_row 29 (.tmp 10) (.tmp 44) rfl nb cd rfl rfl 29 zBag NB.out (by rw [CS2.out]; exact infoBag) (ZS.out.trans CS2.out.symm) V2.out.one ?_
      replace BW := Lib.hid (below_row BW.out (cs := cd) hnbw.out)
      replace B := Lib.hid (B.out.row (ds := cd) hqn.out)
      replace NB := Lib.hid (NB.out.rowSame (ds := cd))
      replace U := Lib.hid (HU.out.below BW.out)
      replace Z := Lib.hid (HZ.out.below BW.out)
      refine hK.out _ _ ?_ (fun hHeld => ?_)
      · exact box_range B.out
      clear hK K
      (try simp only [Act.put])
      (try simp only [List.setIfInBounds_toArray])
      (try simp only [List.set_cons_succ])
      (try simp only [List.set_cons_zero])

      refine wpAnyH_ready (rs := [17]) (by kernel_rfl) (by simp) ?_
      refine AllReadyH.cons (o := { dst := some 11, op := Op.assign (Operand.tmp 45), type := 44, pos := "law.go:158", after := #[{ on := 14, ground := Ground.data }, { on := 16, ground := Ground.chain }, { on := 0, ground := Ground.phase }, { on := 1, ground := Ground.phase }, { on := 2, ground := Ground.phase }, { on := 3, ground := Ground.phase }, { on := 4, ground := Ground.phase }, { on := 5, ground := Ground.phase }, { on := 6, ground := Ground.phase }, { on := 7, ground := Ground.phase }, { on := 8, ground := Ground.phase }, { on := 9, ground := Ground.phase }, { on := 10, ground := Ground.phase }, { on := 11, ground := Ground.phase }, { on := 12, ground := Ground.phase }, { on := 13, ground := Ground.phase }, { on := 14, ground := Ground.phase }, { on := 15, ground := Ground.phase }, { on := 16, ground := Ground.phase }], guard := none }) rfl (fun K hK => ?_) AllReadyH.nil
      go_simp
      refine hK.out _ _ ?_ (fun hHeld => ?_)
      · exact box_range B.out
      clear hK K
      (try simp only [Act.put])
      (try simp only [List.setIfInBounds_toArray])
      (try simp only [List.set_cons_succ])
      (try simp only [List.set_cons_zero])

      refine wpAnyH_done (by kernel_rfl) ?_ _
      clear hHeld
      have zv := zero29
      have CS1 := Lib.hid V1.out.size
      go_wp2_with (first
        | ((with_reducible refine wpList_loadBag q lc.toArray 29 ?_ ?_ ?_ ?_); rfl; exact B.out; exact CS1.out)
        | fail)
      refine (sweep_any lc.toArray L _ _ A P _ V1.out HG.out U.out Z.out (by rw [H2.out]; omega) (by rw [H3.out]; omega) OP.out).mono ?_
      rintro e w5 ⟨ce, gv, G, rfl, k1, k2, -, -, hb⟩
      obtain ⟨K2, hK2⟩ : ∃ K, L.filter (protB A P) = K := ⟨_, rfl⟩
      have HK6 : Hid (∀ x ∈ K2, I643 x) := Lib.hid (by rw [← hK2]; exact fun x hx => HS6.out x (List.mem_filter.1 hx).1)
      rw [hK2] at k1 HSUB
      clear hK2
      have V3 := Lib.hid k1
      have CS3 := Lib.hid k1.size
      have h64 := k1.len
      have h64b := V2.out.len
      have NB5 := Lib.hid (NB.out.below hb)
      have BW5 := Lib.hid (BW.out.trans (hb.mono BW.out.size))
      clear k1 k2 hb B NB BW U Z
      go_upto_region 6 with (first
        | ((with_reducible refine wpList_storeBag w5.heap.size ce zBag 29 ?_ ?_ ?_ ?_ ?_ ?_ ?_); rfl; rfl; exact Box.new w5 zBag 29 rfl; exact ZS.out; exact CS3.out; exact V3.out.one)
        | fail)
      obtain ⟨s, hs⟩ : ∃ x, w5.heap.size = x := ⟨_, rfl⟩
      obtain ⟨Y, hY⟩ : ∃ W, (w5.alloc (.cells zBag 29)).setRow s ce = W := ⟨_, rfl⟩
      have M6 : Hid (Box Y s ce 29) := Lib.hid (by rw [← hY]; exact Box.rowSame (Box.new w5 zBag 29 hs.symm))
      have BY : Hid (Below w5.heap.size w5 Y) := Lib.hid (by rw [← hY]; exact below_row (below1 w5 _) (by omega) _)
      have NB6 := Lib.hid (NB5.out.below BY.out)
      have BW6 := Lib.hid (BW5.out.trans (BY.out.mono BW5.out.size))
      rw [hs, hY]
      clear hs hY BY NB5 BW5 zv
      have mk := run_mkmapI
      go_upto_region 7 with fail
      clear mk
      obtain ⟨g, hg⟩ : ∃ x, Y.heap.size = x := ⟨_, rfl⟩
      obtain ⟨X, hX⟩ : ∃ X, Y.alloc (.map #[] 0) = X := ⟨_, rfl⟩
      have M0 : Hid (MapI X g 0 []) := Lib.hid (by rw [← hX, ← hg]; exact MapI.made Y)
      have BX : Hid (Below Y.heap.size Y X) := Lib.hid (by rw [← hX]; exact below1 Y _)
      have HGQ := Lib.hid hg
      have M7 := Lib.hid (M6.out.below BX.out)
      rw [hX, hg]
      clear hX hg
      go_wp2_with (first
        | ((with_reducible refine wpList_loadBag s ce 29 ?_ ?_ ?_ ?_); rfl; exact M7.out; exact CS3.out)
        | fail)
      refine (items_any ce K2 X V3.out).mono ?_
      rintro e w6 ⟨iv, rfl, hr, hb⟩
      obtain ⟨ia, ic, rfl⟩ := hr.form
      obtain ⟨m2, hm2⟩ : ∃ m, K2.length = m := ⟨_, rfl⟩
      have P6 := Lib.hid hr.ps
      rw [hm2] at P6 h64 ⊢
      have HM2 := Lib.hid hm2
      have M6' := Lib.hid (M0.out.below hb)
      have BX6 := Lib.hid (BX.out.trans (hb.mono BX.out.size))
      have B6 := Lib.hid (Below.refl w6.heap.size w6)
      clear hr hb hm2 M0 BX M7
      go_wp2_with fail
      have hgs : Hid (Y.heap.size ≤ g) := Lib.hid (Nat.le_of_eq HGQ.out)
      obtain ⟨wq, rfl⟩ : ∃ wq, wq = w6 := ⟨_, rfl⟩
      go_loopw [57] (fun iv wr => ∃ k : Nat, k ≤ m2 ∧ iv = .int .i64 k ∧ MapI wr g k (K2.take k) ∧ Below Y.heap.size Y wr ∧ PS wr (.slice ia m2 ic) K2) (fun iv _ => m2 - (intOf iv).toNat)
      case atStart => exact ⟨0, by omega, rfl, M6'.out, BX6.out, P6.out⟩
      case round =>
        obtain ⟨k, hk, rfl, hM, hb, hP⟩ := hrel
        have MI := Lib.hid hM
        have BZ := Lib.hid hb
        have PP := Lib.hid hP
        clear hM hb hP M6' BX6 P6 B6
        by_cases hlt : k < m2
        · obtain ⟨b, off, rfl, hbl, hc⟩ := PP.out.addr hlt
          obtain ⟨c0, c1', c2'⟩ := hc k hlt
          have hy6 := HK6.out _ (getD_mem3 (L := K2) (k := k) (by rw [HM2.out]; exact hlt))
          have HT := Lib.hid (take_succ_getD3 K2 (k := k) (by rw [HM2.out]; exact hlt))
          clear hc
          obtain ⟨y, hy⟩ : ∃ y, K2.getD k zIt = y := ⟨_, rfl⟩
          rw [hy] at c0 c1' c2' hy6 HT
          clear hy
          obtain ⟨y0, y1, y2⟩ := y
          simp only at c0 c1' c2'
          obtain ⟨wo, rfl⟩ : ∃ wo, wo = wr := ⟨_, rfl⟩
          go_upto_region 10 with fail
          obtain ⟨W2, hW2⟩ : ∃ W2, wo.alloc (.cells #[.int .i64 y0, .int .i64 y1, .int .i64 y2] 26) = W2 := ⟨_, rfl⟩
          obtain ⟨xb, hxb⟩ : ∃ g, wo.heap.size = g := ⟨_, rfl⟩
          have XB : Hid (Box W2 xb #[.int .i64 y0, .int .i64 y1, .int .i64 y2] 26) := Lib.hid (by rw [← hW2]; exact Box.new wo _ 26 hxb.symm)
          have RI : Hid (Below wo.heap.size wo W2) := Lib.hid (by rw [← hW2]; exact below1 wo _)
          replace MI := Lib.hid (MI.out.below RI.out)
          replace PP := Lib.hid (PP.out.below RI.out)
          replace BZ := Lib.hid (BZ.out.trans (RI.out.mono BZ.out.size))
          rw [hW2, hxb]
          clear hW2 hxb c0 c1' c2' RI
          have z0 := XB.out.cell 0
          have z1 := XB.out.cell 1
          have z2 := XB.out.cell 2
          simp at z0 z1 z2
          go_wp2_with (first
            | (at_mapUpdate; refine wpList_markI _ rfl _ _ _ rfl g k (K2.take k) rfl MI.out (by omega) (y0, y1, y2) rfl rfl hy6 ?_; intro w8 m8 g8; have M8 := Lib.hid m8; have B8 := Lib.hid (below_mark BZ.out BZ.out.size hgs.out g8); have P8 := Lib.hid (PP.out.marked MI.out g8); clear m8 g8)
            | fail)
          go_roundw
          case rel => exact ⟨k + 1, by omega, by go_num, by rw [HT.out]; exact M8.out, B8.out, P8.out⟩
          case measure => simp [intOf]; omega
        · obtain rfl : k = m2 := by omega
          have LT : Hid (K2.take k = K2) := Lib.hid (List.take_of_length_le (by rw [HM2.out]; exact Nat.le_refl _))
          rw [LT.out] at MI
          clear LT PP
          have NB7 := Lib.hid (NB6.out.below BZ.out)
          have BW7 := Lib.hid (BW6.out.trans (BZ.out.mono BW6.out.size))
          go_wp2_with (first
            | ((with_reducible refine wpList_loadBag nb cd 29 ?_ ?_ ?_ ?_); rfl; exact NB7.out; exact CS2.out)
            | fail)
          refine (items_any cd K1 wr V2.out).mono ?_
          rintro e w7 ⟨jv, rfl, hr, hb⟩
          obtain ⟨ja, jc, rfl⟩ := hr.form
          obtain ⟨m1, hm1⟩ : ∃ m, K1.length = m := ⟨_, rfl⟩
          have P7 := Lib.hid hr.ps
          rw [hm1] at P7 h64b ⊢
          have HM1 := Lib.hid hm1
          have M7 := Lib.hid (MI.out.below hb)
          have BW8 := Lib.hid (BW7.out.trans (hb.mono BW7.out.size))
          clear hr hb hm1 MI BW7 NB7
          go_wp2_with fail
          obtain ⟨wo, rfl⟩ : ∃ wo, wo = w7 := ⟨_, rfl⟩
          go_loopw [67] (fun iv wr => ∃ j : Nat, j ≤ m1 ∧ iv = .int .i64 j ∧ Below wo.heap.size wo wr) (fun iv _ => m1 - (intOf iv).toNat)
          case atStart => exact ⟨0, by omega, rfl, Below.refl _ _⟩
          case round =>
            obtain ⟨j, hj, rfl, hb⟩ := hrel
            have BV9 := Lib.hid hb
            clear hb
            by_cases hlt : j < m1
            · obtain ⟨b, off, rfl, hbl, hc⟩ := P7.out.addr hlt
              obtain ⟨c0, c1', c2'⟩ := hc j hlt
              rw [← BV9.out.cell (p := ⟨b, _, none⟩) hbl] at c0 c1' c2'
              have hmem := HSUB.out _ (getD_mem3 (L := K1) (k := j) (by rw [HM1.out]; exact hlt))
              have hy6 := HK6.out _ hmem
              have hin := (inI_iff _ _).2 hmem
              clear hc hmem
              obtain ⟨y, hy⟩ : ∃ y, K1.getD j zIt = y := ⟨_, rfl⟩
              rw [hy] at c0 c1' c2' hy6 hin
              clear hy
              obtain ⟨y0, y1, y2⟩ := y
              simp only at c0 c1' c2'
              obtain ⟨wi, rfl⟩ : ∃ wo, wo = wr := ⟨_, rfl⟩
              go_upto_region 15 with fail
              obtain ⟨W2, hW2⟩ : ∃ W2, wi.alloc (.cells #[.int .i64 y0, .int .i64 y1, .int .i64 y2] 26) = W2 := ⟨_, rfl⟩
              obtain ⟨xb, hxb⟩ : ∃ g, wi.heap.size = g := ⟨_, rfl⟩
              have XB : Hid (Box W2 xb #[.int .i64 y0, .int .i64 y1, .int .i64 y2] 26) := Lib.hid (by rw [← hW2]; exact Box.new wi _ 26 hxb.symm)
              have RI : Hid (Below wi.heap.size wi W2) := Lib.hid (by rw [← hW2]; exact below1 wi _)
              replace BV9 := Lib.hid (BV9.out.trans (RI.out.mono BV9.out.size))
              have lk := (M7.out.below BV9.out).look _ hy6
              rw [hin] at lk
              unfold itV at lk
              simp only at lk
              rw [hW2, hxb]
              clear hW2 hxb c0 c1' c2' RI hin hy6
              have z0 := XB.out.cell 0
              have z1 := XB.out.cell 1
              have z2 := XB.out.cell 2
              simp at z0 z1 z2
              go_wp2_with fail
              go_roundw
              case rel => exact ⟨j + 1, by omega, by go_num, BV9.out⟩
              case measure => simp [intOf]; omega
            · obtain rfl : j = m1 := by omega
              go_wp2_with fail
              refine (awake_any wr).mono ?_
              rintro e w9 ⟨rfl, hb⟩
              have BE := Lib.hid (BW8.out.trans ((BV9.out.trans (hb.mono BV9.out.size)).mono BW8.out.size))
              clear hb
              go_wp2_with fail
              go_ret
              exact ⟨rfl, BE.out⟩
end Go.Proofs.Ytknnnjnnphdipaa
