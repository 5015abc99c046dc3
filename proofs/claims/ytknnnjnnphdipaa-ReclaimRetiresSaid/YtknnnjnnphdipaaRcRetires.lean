/- The walk through ReclaimRetires. -/
import Derived.Test.YtknnnjnnphdipaaRcCap
namespace Go.Proofs.Ytknnnjnnphdipaa
open Go.ChangeShapes Go.WideShapes Go.ChangeAt Go.RowKit Go.Maps
set_option maxRecDepth 100000 in
set_option maxHeartbeats 6400000 in
theorem retires_walk (v : Value) (l : List It) (w : World) (hv : PS w v l) : Calls Try.prog 3 #[v] w (Good w) := by
  have HV := Lib.hid hv
  obtain ⟨a1, c1, rfl⟩ := hv.form
  clear hv
  obtain ⟨n, hn⟩ : ∃ n, l.length = n := ⟨_, rfl⟩
  rw [hn] at HV ⊢
  have HN := Lib.hid hn
  clear hn
  have ZS := Lib.hid zBag_size
  go_enter Try.func3, Try.ntmps3
  go_wp2_with fail
  refine (few_any _ _ _ l [] [] w HV.out (IS.nil _ _ _) (IS.nil _ _ _)).mono ?_
  rintro e w' ⟨r, rfl, rfl, hr⟩
  rw [HN.out] at hr
  cases r with
  | false =>
    clear hr
    go_wp2_with fail
    refine (awake_any w).mono ?_
    rintro e w1 ⟨rfl, hb⟩
    have BB := Lib.hid hb
    clear hb
    go_wp2_with fail
    go_ret
    exact ⟨rfl, BB.out⟩
  | true =>
    obtain ⟨l1, -, -⟩ := hr rfl
    clear hr
    have zv := zero29
    go_upto_region 4 with fail
    clear zv
    obtain ⟨q, hq⟩ : ∃ q, w.heap.size = q := ⟨_, rfl⟩
    obtain ⟨W, hW⟩ : ∃ W, w.alloc (.cells zBag 29) = W := ⟨_, rfl⟩
    have B0 : Hid (Box W q zBag 29) := Lib.hid (by rw [← hW]; exact Box.new w zBag 29 hq.symm)
    have BW0 : Hid (Below w.heap.size w W) := Lib.hid (by rw [← hW]; exact below1 w _)
    have hq0 : Hid (w.heap.size ≤ q) := Lib.hid (by omega)
    rw [hW, hq]
    clear hW hq
    go_wp2_with fail
    go_loopw [4, 16] (fun lv iv wr => ∃ k : Nat, ∃ c, k ≤ n ∧ iv = .int .i64 k ∧ Box wr q c 29 ∧ BV c (bagL (l.take k)) ∧ Row3 35 w.heap.size wr lv (bagL (l.take k)) ∧ Below w.heap.size w wr) (fun _ iv _ => n - (intOf iv).toNat)
    case atStart => exact ⟨0, zBag, by omega, rfl, B0.out, BV.zero, Row3.nil _ _ _, BW0.out⟩
    case round =>
      obtain ⟨k, c, hk, rfl, hB, hV, hR, hb⟩ := hrel
      have B := Lib.hid hB
      have VV := Lib.hid hV
      have LV := Lib.hid hR
      have BW := Lib.hid hb
      have HGL := Lib.hid (bagL_good (l.take k))
      have hL64 := hV.len
      clear hB hV hR hb B0 BW0
      by_cases hlt : k < n
      · obtain ⟨b, off, rfl, hbl, hc⟩ := HV.out.addr hlt
        obtain ⟨c0, c1', c2'⟩ := hc k hlt
        rw [← BW.out.cell (p := ⟨b, _, none⟩) hbl] at c0 c1' c2'
        have HT := Lib.hid (bagL_succ l (k := k) (by rw [HN.out]; exact hlt))
        clear hc
        obtain ⟨y, hy⟩ : ∃ y, l.getD k zIt = y := ⟨_, rfl⟩
        rw [hy] at c0 c1' c2' HT
        clear hy
        obtain ⟨L, hL⟩ : ∃ L, bagL (l.take k) = L := ⟨_, rfl⟩
        rw [hL] at VV LV HT HGL hL64
        clear hL
        have RT := Lib.hid (fun W => retire_any c L y W VV.out HGL.out)
        have WR := Lib.hid (fun (W : World) v (h : PS W v L) => wrong_any v L y W h (by omega))
        unfold itV at RT WR
        obtain ⟨y0, y1, y2⟩ := y
        simp only at c0 c1' c2' RT WR
        obtain ⟨ra, rc, rfl⟩ := LV.out.form
        obtain ⟨m, hm⟩ : ∃ m, L.length = m := ⟨_, rfl⟩
        rw [hm] at LV hL64 ⊢
        have HLM := Lib.hid hm
        clear hm
        have CS := Lib.hid VV.out.size
        obtain ⟨wo, rfl⟩ : ∃ wo, wo = wr := ⟨_, rfl⟩
        go_upto_region 8 with fail
        obtain ⟨W2, hW2⟩ : ∃ W2, wo.alloc (.cells #[.int .i64 y0, .int .i64 y1, .int .i64 y2] 26) = W2 := ⟨_, rfl⟩
        obtain ⟨g, hgq⟩ : ∃ g, wo.heap.size = g := ⟨_, rfl⟩
        have X : Hid (Box W2 g #[.int .i64 y0, .int .i64 y1, .int .i64 y2] 26) := Lib.hid (by rw [← hW2]; exact Box.new wo _ 26 hgq.symm)
        have RI : Hid (Below wo.heap.size wo W2) := Lib.hid (by rw [← hW2]; exact below1 wo _)
        replace B := Lib.hid (B.out.below RI.out)
        replace LV := Lib.hid (LV.out.below RI.out)
        replace BW := Lib.hid (BW.out.trans (RI.out.mono BW.out.size))
        rw [hW2, hgq]
        clear hW2 hgq c0 c1' c2' RI
        have z0 := X.out.cell 0
        have z1 := X.out.cell 1
        have z2 := X.out.cell 2
        simp at z0 z1 z2
        have zv := zero29
        go_wp2_with (first
          | ((with_reducible refine wpList_loadBag q c 29 ?_ ?_ ?_ ?_); rfl; exact B.out; exact CS.out)
          | fail)
        refine (RT.out W2).mono ?_
        rintro e w3 ⟨c4, rfl, hv4, hb⟩
        replace B := Lib.hid (B.out.below hb)
        replace X := Lib.hid (X.out.below hb)
        replace LV := Lib.hid (LV.out.below hb)
        replace BW := Lib.hid (BW.out.trans (hb.mono BW.out.size))
        have V4 := Lib.hid hv4
        clear hb hv4 z0 z1 z2 RT
        obtain ⟨er, her⟩ : ∃ er, wrongL L (y0, y1, y2) = er := ⟨_, rfl⟩
        rw [her] at V4 HT ⊢
        have HER := Lib.hid her
        clear her
        have ltB := B.out.lt
        have ltX := X.out.lt
        go_upto_region 9 with (first
          | ((with_reducible refine wpList_storeBag w3.heap.size c4 zBag 29 ?_ ?_ ?_ ?_ ?_ ?_ ?_); rfl; rfl; exact Box.new w3 zBag 29 rfl; exact ZS.out; exact V4.out.size; exact V4.out.one)
          | fail)
        clear zv
        obtain ⟨nb, hnb⟩ : ∃ x, w3.heap.size = x := ⟨_, rfl⟩
        obtain ⟨W5, hW5⟩ : ∃ W5, (w3.alloc (.cells zBag 29)).setRow nb c4 = W5 := ⟨_, rfl⟩
        have NB : Hid (Box W5 nb c4 29) := Lib.hid (by rw [← hW5]; exact Box.rowSame (Box.new w3 zBag 29 hnb.symm))
        have RI : Hid (Below w3.heap.size w3 W5) := Lib.hid (by rw [← hW5]; exact below_row (below1 w3 _) (by omega) _)
        replace B := Lib.hid (B.out.below RI.out)
        replace X := Lib.hid (X.out.below RI.out)
        replace LV := Lib.hid (LV.out.below RI.out)
        replace BW := Lib.hid (BW.out.trans (RI.out.mono BW.out.size))
        rw [hnb, hW5]
        clear hnb hW5 RI ltB ltX
        have z0 := X.out.cell 0
        have z1 := X.out.cell 1
        have z2 := X.out.cell 2
        simp at z0 z1 z2
        go_wp2_with fail
        refine (WR.out W5 _ LV.out.ps).mono ?_
        rintro e w6 ⟨rfl, hb⟩
        rw [HER.out]
        replace B := Lib.hid (B.out.below hb)
        replace X := Lib.hid (X.out.below hb)
        replace NB := Lib.hid (NB.out.below hb)
        replace LV := Lib.hid (LV.out.below hb)
        replace BW := Lib.hid (BW.out.trans (hb.mono BW.out.size))
        clear hb z0 z1 z2 WR HER
        have hee : (er != er) = false := by simp
        go_wp2_with (first
          | ((with_reducible refine wpList_loadBagG q c 29 ?_ ?_ ?_ ?_ ?_); rfl; rfl; exact B.out; exact CS.out)
          | fail)
        refine (is_any c L _ L w6 VV.out LV.out.ps (by rw [HLM.out]; omega)).mono ?_
        rintro e w7 ⟨rfl, hb⟩
        rw [decide_eq_true (Eq.refl L)]
        replace B := Lib.hid (B.out.below hb)
        replace X := Lib.hid (X.out.below hb)
        replace NB := Lib.hid (NB.out.below hb)
        replace LV := Lib.hid (LV.out.below hb)
        replace BW := Lib.hid (BW.out.trans (hb.mono BW.out.size))
        clear hb hee
        obtain ⟨w6, rfl⟩ : ∃ wz, wz = w7 := ⟨_, rfl⟩
        by_cases h0 : er = 0
        · subst h0
          rw [if_pos rfl] at HT V4
          have hmc : m ≤ rc := by obtain ⟨a', c', e', hc', _⟩ := LV.out.ps; injection e' with _ _ e3; rw [HLM.out] at hc'; omega
          go_upto_region 13 with fail
          refine wp_region_held_drew (S := fun wz => wz.rangeAt g 0 [.int .i64 y0, .int .i64 y1, .int .i64 y2]) (by kernel_rfl) (by rw [World.rangeAt_drew]; exact box_range X.out) (fun hHeld => ?_)
          have RI : Hid (Below w6.heap.size w6 w6.drew) := Lib.hid ((Below.refl _ _).drew)
          replace X := Lib.hid (X.out.below RI.out)
          replace B := Lib.hid (B.out.below RI.out)
          replace NB := Lib.hid (NB.out.below RI.out)
          replace LV := Lib.hid (LV.out.below RI.out)
          replace BW := Lib.hid (BW.out.trans (RI.out.mono BW.out.size))
          clear RI
          generalize World.drew w6 = V at X B NB LV BW hHeld ⊢
          refine wpAnyH_take (i := 0) (oi := { dst := some 40, op := Op.move (Operand.tmp 4), type := 30, pos := "law.go:65", after := #[], guard := none }) (v := ?v0) rfl (by kernel_rfl) (by kernel_rfl) (by kernel_rfl) (fun _ _ _ h => h) (Or.inl ⟨by rfl, ?y0⟩) (by assumption) ?r0
          case y0 => (intro w hSw; (try dsimp only at hSw); go_simp; try with_reducible rfl)
          (try simp only [Act.put])
          (try simp only [List.setIfInBounds_toArray])
          (try simp only [List.set_cons_succ])
          (try simp only [List.set_cons_zero])
          refine wpAnyH_take (i := 1) (oi := { dst := some 41, op := Op.move (Operand.tmp 4), type := 30, pos := "law.go:65", after := #[], guard := none }) (v := ?v1) rfl (by kernel_rfl) (by kernel_rfl) (by kernel_rfl) (fun _ _ _ h => h) (Or.inl ⟨by rfl, ?y1⟩) (by assumption) ?r1
          case y1 => (intro w hSw; (try dsimp only at hSw); go_simp; try with_reducible rfl)
          (try simp only [Act.put])
          (try simp only [List.setIfInBounds_toArray])
          (try simp only [List.set_cons_succ])
          (try simp only [List.set_cons_zero])
          refine wpAnyH_take (i := 2) (oi := { dst := some 42, op := Op.call { callee := Callee.builtin Builtin.len, args := #[Operand.tmp 41], argTypes := #[30] }, type := 3, pos := "law.go:65", after := #[{ on := 1, ground := Ground.data }], guard := none }) (v := ?v2) rfl (by kernel_rfl) (by kernel_rfl) (by kernel_rfl) (fun _ _ _ h => h) (Or.inl ⟨by rfl, ?y2⟩) (by assumption) ?r2
          case y2 => (intro w hSw; (try dsimp only at hSw); go_simp; try with_reducible rfl)
          (try simp only [Act.put])
          (try simp only [List.setIfInBounds_toArray])
          (try simp only [List.set_cons_succ])
          (try simp only [List.set_cons_zero])
          refine wpAnyH_take (i := 3) (oi := { dst := some 43, op := Op.move (Operand.tmp 4), type := 30, pos := "law.go:65", after := #[], guard := none }) (v := ?v3) rfl (by kernel_rfl) (by kernel_rfl) (by kernel_rfl) (fun _ _ _ h => h) (Or.inl ⟨by rfl, ?y3⟩) (by assumption) ?r3
          case y3 => (intro w hSw; (try dsimp only at hSw); go_simp; try with_reducible rfl)
          (try simp only [Act.put])
          (try simp only [List.setIfInBounds_toArray])
          (try simp only [List.set_cons_succ])
          (try simp only [List.set_cons_zero])
          refine wpAnyH_take (i := 4) (oi := { dst := some 44, op := Op.call { callee := Callee.builtin Builtin.len, args := #[Operand.tmp 43], argTypes := #[30] }, type := 3, pos := "law.go:65", after := #[{ on := 3, ground := Ground.data }], guard := none }) (v := ?v4) rfl (by kernel_rfl) (by kernel_rfl) (by kernel_rfl) (fun _ _ _ h => h) (Or.inl ⟨by rfl, ?y4⟩) (by assumption) ?r4
          case y4 => (intro w hSw; (try dsimp only at hSw); go_simp; try with_reducible rfl)
          (try simp only [Act.put])
          (try simp only [List.setIfInBounds_toArray])
          (try simp only [List.set_cons_succ])
          (try simp only [List.set_cons_zero])
          refine wpAnyH_take (i := 5) (oi := { dst := some 45, op := Op.slice 30 (Operand.tmp 40) none (some (Operand.tmp 42)) (some (Operand.tmp 44)), type := 30, pos := "law.go:65", after := #[{ on := 0, ground := Ground.data }, { on := 2, ground := Ground.data }, { on := 4, ground := Ground.data }], guard := none }) (v := ?v5) rfl (by kernel_rfl) (by kernel_rfl) (by kernel_rfl) (fun _ _ _ h => h) (Or.inl ⟨by rfl, ?y5⟩) (by assumption) ?r5
          case y5 => (intro w hSw; (try dsimp only at hSw); go_simp; try with_reducible rfl)
          (try simp only [Act.put])
          (try simp only [List.setIfInBounds_toArray])
          (try simp only [List.set_cons_succ])
          (try simp only [List.set_cons_zero])
          refine wpAnyH_take (i := 6) (oi := { dst := some 46, op := Op.load 26 (Operand.tmp 6), type := 26, pos := "law.go:65", after := #[], guard := none }) (v := .agg #[.int .i64 y0, .int .i64 y1, .int .i64 y2]) rfl (by kernel_rfl) (by kernel_rfl) (by kernel_rfl) (fun _ _ _ h => h) (yieldsIf_load_mid (by rfl) 26 (.tmp 6) rfl g 0 rfl [.int .i64 y0, .int .i64 y1, .int .i64 y2] _ (fun _ h => h) Try.underlying26 rfl (by kernel_rfl)) (by assumption) ?_
          (try simp only [Act.put])
          (try simp only [List.setIfInBounds_toArray])
          (try simp only [List.set_cons_succ])
          (try simp only [List.set_cons_zero])
          refine wpAnyH_ready (rs := [7]) (by kernel_rfl) (by simp) ?_
          refine AllReadyH.cons (o := { dst := some 47, op := Op.buildSlice 30 1 #[(0, Operand.tmp 46)], type := 30, pos := "law.go:65", after := #[{ on := 6, ground := Ground.data }], guard := none }) rfl (fun K hK => ?_) AllReadyH.nil
          go_simp
          have E3 := Lib.hid (PS.ofBox (Box.new V #[.int .i64 y0, .int .i64 y1, .int .i64 y2] 35 rfl) (L := [(y0, y1, y2)]) (n := 1) (cap := 1) rfl rfl (Nat.le_refl _))
          have RI := Lib.hid (below1 V (.cells #[.int .i64 y0, .int .i64 y1, .int .i64 y2] 35))
          replace X := Lib.hid (X.out.below RI.out)
          replace B := Lib.hid (B.out.below RI.out)
          replace NB := Lib.hid (NB.out.below RI.out)
          replace LV := Lib.hid (LV.out.below RI.out)
          replace BW := Lib.hid (BW.out.trans (RI.out.mono BW.out.size))
          clear RI
          refine hK.out _ _ ?_ (fun hHeld => ?_)
          · exact box_range X.out
          clear hK K
          (try simp only [Act.put])
          (try simp only [List.setIfInBounds_toArray])
          (try simp only [List.set_cons_succ])
          (try simp only [List.set_cons_zero])
          refine wpAnyH_ready (rs := [8]) (by kernel_rfl) (by simp) ?_
          refine AllReadyH.cons (o := { dst := some 48, op := Op.call { callee := Callee.builtin Builtin.append, args := #[Operand.tmp 45, Operand.tmp 47], argTypes := #[30, 30] }, type := 30, pos := "law.go:65", after := #[{ on := 5, ground := Ground.data }, { on := 7, ground := Ground.data }], guard := none }) rfl (fun K hK => ?_) AllReadyH.nil
          refine step_cap3 _ rfl (.tmp 45) (.tmp 47) rfl rfl BW.out LV.out HLM.out rfl E3.out (by omega) ?_
          intro v7 w7 r7 b7
          replace X := Lib.hid (X.out.below b7)
          replace B := Lib.hid (B.out.below b7)
          replace NB := Lib.hid (NB.out.below b7)
          replace BW := Lib.hid (BW.out.trans (b7.mono BW.out.size))
          have LV7 := Lib.hid r7
          have F7 : Hid (∃ a c, v7 = .slice a (m + 1) c) := Lib.hid (by obtain ⟨a, c, h⟩ := r7.ps.form; exact ⟨a, c, by rw [h, List.length_append, HLM.out]; rfl⟩)
          obtain ⟨ra7, rc7, e7⟩ := F7.out
          subst e7
          clear r7 b7 E3 LV F7
          refine hK.out _ _ ?_ (fun hHeld => ?_)
          · exact box_range X.out
          clear hK K
          (try simp only [Act.put])
          (try simp only [List.setIfInBounds_toArray])
          (try simp only [List.set_cons_succ])
          (try simp only [List.set_cons_zero])
          refine wpAnyH_ready (rs := [9]) (by kernel_rfl) (by simp) ?_
          refine AllReadyH.cons (o := { dst := some 4, op := Op.assign (Operand.tmp 48), type := 30, pos := "law.go:65", after := #[{ on := 8, ground := Ground.data }, { on := 8, ground := Ground.chain }, { on := 0, ground := Ground.phase }, { on := 1, ground := Ground.phase }, { on := 2, ground := Ground.phase }, { on := 3, ground := Ground.phase }, { on := 4, ground := Ground.phase }, { on := 5, ground := Ground.phase }, { on := 6, ground := Ground.phase }, { on := 7, ground := Ground.phase }, { on := 8, ground := Ground.phase }], guard := none }) rfl (fun K hK => ?_) AllReadyH.nil
          go_simp
          refine hK.out _ _ ?_ (fun hHeld => ?_)
          · exact hHeld
          clear hK K
          (try simp only [Act.put])
          (try simp only [List.setIfInBounds_toArray])
          (try simp only [List.set_cons_succ])
          (try simp only [List.set_cons_zero])
          refine wpAnyH_done (by kernel_rfl) ?_ _
          clear hHeld X
          have LV := LV7
          clear LV7
          have HL7 : Hid ((L ++ [(y0, y1, y2)]).length ≤ 1000) := Lib.hid (by rw [List.length_append, HLM.out]; simp; omega)
          obtain ⟨L7, hL7⟩ : ∃ L7, L ++ [(y0, y1, y2)] = L7 := ⟨_, rfl⟩
          rw [hL7] at LV V4 HT HL7
          clear hL7
          go_wp2_with (first
            | ((with_reducible refine wpList_loadBag nb c4 29 ?_ ?_ ?_ ?_); rfl; exact NB.out; exact V4.out.size)
            | fail)
          refine (is_any c4 _ _ _ _ V4.out LV.out.ps HL7.out).mono ?_
          rintro e w9 ⟨rfl, hb⟩
          rw [decide_eq_true (Eq.refl _)]
          replace B := Lib.hid (B.out.below hb)
          replace NB := Lib.hid (NB.out.below hb)
          replace LV := Lib.hid (LV.out.below hb)
          replace BW := Lib.hid (BW.out.trans (hb.mono BW.out.size))
          clear hb
          go_wp2_with (first
            | ((with_reducible refine wpList_loadBag nb c4 29 ?_ ?_ ?_ ?_); rfl; exact NB.out; exact V4.out.size)
            | ((with_reducible refine wpList_storeBag q c4 c 29 ?_ ?_ ?_ ?_ ?_ ?_ ?_); rfl; rfl; exact B.out; exact CS.out; exact V4.out.size; exact V4.out.one)
            | fail)
          go_roundw
          case rel => exact ⟨k + 1, c4, by omega, by go_num, B.out.rowSame, by rw [HT.out]; exact V4.out, by rw [HT.out]; exact own_row LV.out B.out (by decide), below_row BW.out hq0.out _⟩
          case measure => simp [intOf]; omega
        · have hb0 : (er == 0) = false := by rw [beq_eq_false_iff_ne]; exact h0
          rw [if_neg h0] at HT V4
          go_wp2_with (first
            | ((with_reducible refine wpList_loadBag nb c4 29 ?_ ?_ ?_ ?_); rfl; exact NB.out; exact V4.out.size)
            | fail)
          refine (is_any c4 _ _ _ _ V4.out LV.out.ps (by rw [HLM.out]; omega)).mono ?_
          rintro e w9 ⟨rfl, hb⟩
          rw [decide_eq_true (Eq.refl _)]
          replace B := Lib.hid (B.out.below hb)
          replace NB := Lib.hid (NB.out.below hb)
          replace LV := Lib.hid (LV.out.below hb)
          replace BW := Lib.hid (BW.out.trans (hb.mono BW.out.size))
          clear hb
          go_wp2_with (first
            | ((with_reducible refine wpList_loadBag nb c4 29 ?_ ?_ ?_ ?_); rfl; exact NB.out; exact V4.out.size)
            | ((with_reducible refine wpList_storeBag q c4 c 29 ?_ ?_ ?_ ?_ ?_ ?_ ?_); rfl; rfl; exact B.out; exact CS.out; exact V4.out.size; exact V4.out.one)
            | fail)
          go_roundw
          case rel => exact ⟨k + 1, c4, by omega, by go_num, B.out.rowSame, by rw [HT.out]; exact V4.out, by rw [HT.out]; exact own_row LV.out B.out (by decide), below_row BW.out hq0.out _⟩
          case measure => simp [intOf]; omega
      · obtain rfl : k = n := by omega
        go_wp2_with fail
        refine (awake_any wr).mono ?_
        rintro e w1 ⟨rfl, hb⟩
        replace BW := Lib.hid (BW.out.trans (hb.mono BW.out.size))
        clear hb
        go_wp2_with fail
        go_ret
        exact ⟨rfl, BW.out⟩
end Go.Proofs.Ytknnnjnnphdipaa
