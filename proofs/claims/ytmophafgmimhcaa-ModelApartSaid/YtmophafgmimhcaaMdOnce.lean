/- The walk through ModelOnce. -/
import Derived.Test.YtmophafgmimhcaaMdSplits
namespace Go.Proofs.Ytmophafgmimhcaa
open Go.ChangeShapes Go.WideShapes Go.ChangeAt Go.RowKit Go.Maps
theorem swp_no (M : List Wd) (L : List En) (h : (swp M L).2.2 ≠ 0 ∨ (swp M L).2.1 = false) : (swp M L).1 = M := by
  unfold swp at *
  by_cases h1 : chkM M L = 0
  · by_cases h2 : holds M L = true
    · rw [if_neg (by simpa using h1), if_pos h2] at h; simp at h
    · rw [if_neg (by simpa using h1), if_neg h2]
  · rw [if_pos (by simpa using h1)]
theorem swp_len (M : List Wd) (L : List En) : (swp M L).1.length = M.length := by
  unfold swp
  split
  · rfl
  · split
    · exact upd_len M L
    · rfl
theorem anyW_take (L : List En) {k : Nat} (h : k < L.length) : anyW (L.take (k + 1)) = (anyW (L.take k) || (L[k]!).2.2.2) := by
  unfold anyW
  rw [take_snoc L h, List.any_append]
  simp
set_option maxRecDepth 100000 in
set_option maxHeartbeats 6400000 in
theorem once_walk (wv v : Value) (M : List Wd) (L : List En) (w : World) (hm : WS w wv M) (hv : ES w v L) (_ : ∀ x ∈ M, OkW x) (ho : ∀ x ∈ L, OkE x) (_ : M.length ≤ maxLen) (_ : L.length ≤ maxLen) : Calls Try.prog 5 #[wv, v] w (Good w) := by
  have HM := Lib.hid hm
  have HV := Lib.hid hv
  have OK := Lib.hid ho
  obtain ⟨va, vc, rfl, hcap⟩ := hv.form
  obtain ⟨ma, mc, rfl, _⟩ := hm.form
  clear hm hv ho
  obtain ⟨n, hn⟩ : ∃ n, L.length = n := ⟨_, rfl⟩
  obtain ⟨mn, hmn⟩ : ∃ n, M.length = n := ⟨_, rfl⟩
  rw [hn] at HV hcap ⊢
  rw [hmn] at HM ⊢
  have HN := Lib.hid hn
  have HMN := Lib.hid hmn
  clear hn hmn
  have FW := Lib.hid (few_any _ M _ [(va, n, vc)] _ (HM.out.below (below1 w (.cells #[.slice va n vc] 30))) few1 (by simp [maxLen]))
  rw [HMN.out] at FW
  have BB := Lib.hid (below1 w (.cells #[.slice va n vc] 30))
  go_enter Try.func5, Try.ntmps5
  go_wp2_with fail
  refine FW.out.mono ?_
  rintro e w1 ⟨b, rfl, hb, hsm⟩
  replace BB := Lib.hid (BB.out.trans (hb.mono BB.out.size))
  clear hb FW
  cases b with
  | false =>
    go_wp2_with fail
    refine (awake_any _).mono ?_
    rintro e w9 ⟨rfl, hb⟩
    replace BB := Lib.hid (BB.out.trans (hb.mono BB.out.size))
    clear hb
    go_wp2_with fail
    go_ret
    exact ⟨rfl, BB.out⟩
  | true =>
    obtain ⟨s1, _, s2⟩ := hsm rfl
    have hn12 : n ≤ 12 := s2 0 (by simp)
    clear hsm s2
    go_wp2_with fail
    refine (new_any _ M w1 (HM.out.below BB.out) (by rw [HMN.out]; omega)).mono ?_
    rintro e w2 ⟨u, rfl, hu, hb⟩
    obtain ⟨ua, uc, rfl, _⟩ := hu.form
    rw [bare_len, HMN.out] at hu ⊢
    replace BB := Lib.hid (BB.out.trans (hb.mono BB.out.size))
    have U := Lib.hid hu
    have UL := Lib.hid (bare_len M)
    rw [HMN.out] at UL
    obtain ⟨X, hX⟩ : ∃ X, bare M = X := ⟨_, rfl⟩
    rw [hX] at U UL
    clear hu hb hX
    go_upto_region 4 with fail
    have Z := Lib.hid (Box.new w2 #[.slice ua mn uc] 27 rfl)
    replace U := Lib.hid (U.out.below (below1 w2 (.cells #[.slice ua mn uc] 27)))
    replace BB := Lib.hid (BB.out.alloc BB.out.size (.cells #[.slice ua mn uc] 27))
    generalize w2.alloc (.cells #[.slice ua mn uc] 27) = W3 at *
    generalize w2.heap.size = z at *
    have z0 := Z.out.cell 0
    simp at z0
    have V3 := Lib.hid (HV.out.below BB.out)
    go_wp2_with fail
    refine (swap_any _ X _ L W3 U.out V3.out (by rw [HN.out]; omega) (by rw [UL.out]; omega)).mono ?_
    rintro e w6 ⟨v6, rfl, hv6, hb⟩
    have NO := Lib.hid (swp_no X L)
    have SL := Lib.hid (swp_len X L)
    have AG := Lib.hid (swp_again X L (fun e he => (OK.out e he).2.1.2.1))
    rw [UL.out] at SL
    obtain ⟨R, hR⟩ : ∃ R, swp X L = R := ⟨_, rfl⟩
    rw [hR] at hv6 NO SL AG ⊢
    clear hR
    obtain ⟨R, ok, c⟩ := R
    simp only at hv6 NO SL AG ⊢
    obtain ⟨va6, vc6, rfl, _⟩ := hv6.form
    rw [SL.out] at hv6 ⊢
    have V6 := Lib.hid hv6
    replace BB := Lib.hid (BB.out.trans (hb.mono BB.out.size))
    replace U := Lib.hid (U.out.below hb)
    replace V3 := Lib.hid (V3.out.below hb)
    replace Z := Lib.hid (Z.out.below hb)
    clear hv6 hb z0
    go_upto_region 5 with fail
    have Y := Lib.hid (Box.new w6 #[.slice va6 mn vc6] 27 rfl)
    have RI := Lib.hid (below1 w6 (.cells #[.slice va6 mn vc6] 27))
    replace V6 := Lib.hid (V6.out.below RI.out)
    replace U := Lib.hid (U.out.below RI.out)
    replace V3 := Lib.hid (V3.out.below RI.out)
    replace Z := Lib.hid (Z.out.below RI.out)
    replace BB := Lib.hid (BB.out.trans (RI.out.mono BB.out.size))
    clear RI
    generalize w6.alloc (.cells #[.slice va6 mn vc6] 27) = W7 at *
    generalize w6.heap.size = y at *
    have hul : X.length ≤ 1000 := by rw [UL.out]; omega
    have hrl : R.length ≤ 1000 := by rw [SL.out]; omega
    have WM := Lib.hid (fun W (h : Below W7.heap.size W7 W) => words_any _ X W (U.out.below h) hul)
    have WN := Lib.hid (fun W (h : Below W7.heap.size W7 W) => words_any _ R W (V6.out.below h) hrl)
    have KS : Hid (∀ W, Below W7.heap.size W7 W → W.cell? ⟨z, 0, none⟩ = some (.slice ua mn uc) ∧ W.cell? ⟨y, 0, none⟩ = some (.slice va6 mn vc6)) := Lib.hid (fun W h => ⟨(Z.out.below h).cell 0, (Y.out.below h).cell 0⟩)
    by_cases hgo : c = 0 ∧ ok = true
    · obtain ⟨hc, hok⟩ := hgo
      subst hc hok
      obtain ⟨ag1, ag2⟩ := AG.out rfl
      have AG1 := Lib.hid ag1
      have AG2 := Lib.hid ag2
      clear ag1 ag2 AG NO
      obtain ⟨z0, y0⟩ := KS.out W7 (Below.refl _ _)
      go_wp2_with fail
      refine (swap_any _ R _ L W7 V6.out V3.out (by rw [HN.out]; omega) hrl).mono ?_
      rintro e w8 ⟨v8, rfl, hv8, hb⟩
      rw [AG1.out] at hv8 ⊢
      simp only at hv8 ⊢
      obtain ⟨va8, vc8, rfl, _⟩ := hv8.form
      rw [SL.out] at hv8 ⊢
      have V8 := Lib.hid hv8
      have B7 := Lib.hid hb
      clear hv8 hb AG1 z0 y0
      go_upto_region 8 with fail
      have O := Lib.hid (Box.new w8 #[.slice va8 mn vc8] 27 rfl)
      replace V8 := Lib.hid (V8.out.below (below1 w8 (.cells #[.slice va8 mn vc8] 27)))
      replace B7 := Lib.hid (B7.out.alloc B7.out.size (.cells #[.slice va8 mn vc8] 27))
      generalize w8.alloc (.cells #[.slice va8 mn vc8] 27) = W8 at *
      generalize w8.heap.size = o at *
      go_wp2_with fail
      go_loopw [12, 52] (fun sv iv wr => ∃ k : Nat, k ≤ n ∧ iv = .int .i64 k ∧ sv = .bool (anyW (L.take k)) ∧ Below W8.heap.size W8 wr) (fun _ iv _ => n - (intOf iv).toNat)
      case atStart => exact ⟨0, by omega, rfl, rfl, Below.refl _ _⟩
      case round =>
        obtain ⟨k, hk, rfl, rfl, hb⟩ := hrel
        have B8 := Lib.hid hb
        clear hb
        by_cases hlt : k < n
        · obtain ⟨b, off, rfl, hbl, hln, hc⟩ := V3.out.addr hlt
          obtain ⟨c0, c1, c2, c3, c4, c5⟩ := en_cells hc (by rw [hln]; exact hlt)
          have BA := Lib.hid (B7.out.trans (B8.out.mono B7.out.size))
          rw [← BA.out.cell (p := ⟨b, _, none⟩) hbl] at c0 c1 c2 c3 c4 c5
          have TK := Lib.hid (anyW_take L (k := k) (by rw [HN.out]; exact hlt))
          clear hc hln
          obtain ⟨x, hx⟩ : ∃ y, L[k]! = y := ⟨_, rfl⟩
          rw [hx] at c0 c1 c2 c3 c4 c5 TK
          clear hx
          obtain ⟨x0, ⟨x1, x2, x3⟩, x4, x5⟩ := x
          simp only at c0 c1 c2 c3 c4 c5 TK
          obtain ⟨aw, haw⟩ : ∃ y, anyW (L.take k) = y := ⟨_, rfl⟩
          rw [haw] at TK ⊢
          clear haw
          have RI := Lib.hid (B8.out.alloc B8.out.size (.cells #[.int .i64 x0, .int .i64 x1, .int .u32 x2, .int .u32 x3, .int .i64 x4, .bool x5] 50))
          have lt5 : (wr.alloc (.cells #[.int .i64 x0, .int .i64 x1, .int .u32 x2, .int .u32 x3, .int .i64 x4, .bool x5] 50)).cell? ⟨wr.heap.size, 5, none⟩ = some (.bool x5) := (Box.new wr #[.int .i64 x0, .int .i64 x1, .int .u32 x2, .int .u32 x3, .int .i64 x4, .bool x5] 50 rfl).cell 5
          cases aw <;>
          · go_wp2_with fail
            go_roundw
            case rel => exact ⟨k + 1, by omega, by go_num, by rw [TK.out]; simp, RI.out⟩
            case measure => simp [intOf]; omega
        · obtain rfl : k = n := by omega
          rw [List.take_of_length_le (by rw [HN.out]; exact Nat.le_refl _)]
          have P := Lib.hid ((B7.out.trans (B8.out.mono B7.out.size)).drew)
          have V8W := Lib.hid (fun W (h : Below W7.heap.size W7 W) => h)
          have BO := Lib.hid (BB.out.trans ((B7.out.trans (B8.out.mono B7.out.size)).mono BB.out.size))
          clear V8W BB
          replace Z := Lib.hid ((Z.out.below B7.out).below B8.out)
          replace Y := Lib.hid ((Y.out.below B7.out).below B8.out)
          replace O := Lib.hid (O.out.below B8.out)
          replace U := Lib.hid ((U.out.below B7.out).below B8.out)
          replace V6 := Lib.hid ((V6.out.below B7.out).below B8.out)
          replace V8 := Lib.hid (V8.out.below B8.out)
          clear WM WN KS P
          have WM := Lib.hid (fun W (h : Below wr.heap.size wr W) => words_any _ X W (U.out.below h) hul)
          have WN := Lib.hid (fun W (h : Below wr.heap.size wr W) => words_any _ R W (V6.out.below h) hrl)
          have KS : Hid (∀ W, Below wr.heap.size wr W → W.cell? ⟨z, 0, none⟩ = some (.slice ua mn uc) ∧ W.cell? ⟨y, 0, none⟩ = some (.slice va6 mn vc6) ∧ W.cell? ⟨o, 0, none⟩ = some (.slice va8 mn vc8)) := Lib.hid (fun W h => ⟨(Z.out.below h).cell 0, (Y.out.below h).cell 0, (O.out.below h).cell 0⟩)
          have P := Lib.hid ((Below.refl wr.heap.size wr).drew)
          clear Z Y O B7 B8
          obtain ⟨aw, haw⟩ : ∃ y, anyW L = y := ⟨_, rfl⟩
          rw [haw] at AG2 ⊢
          clear haw
          cases aw with
          | true =>
            go_upto_region 14 with fail
            refine wp_region_held_drew (S := fun w' => w'.cell? ⟨z, 0, none⟩ = some (.slice ua mn uc) ∧ w'.cell? ⟨y, 0, none⟩ = some (.slice va6 mn vc6) ∧ w'.cell? ⟨o, 0, none⟩ = some (.slice va8 mn vc8)) (by kernel_rfl) ⟨(KS.out _ P.out).1, (KS.out _ P.out).2.1, (KS.out _ P.out).2.2⟩ (fun hHeld => ?_)
            generalize World.drew wr = V0 at *
            refine wpAnyH_ready (rs := [0]) (by kernel_rfl) (by simp) ?_
            refine AllReadyH.cons (o := { dst := some 62, op := Op.call { callee := Callee.value (Operand.func 9), args := #[], argTypes := #[] }, type := 4, pos := "law.go:98", after := #[], guard := none }) rfl (fun K hK => ?_) AllReadyH.nil
            go_simp
            go_at_call 9
            refine (awake_any _).mono ?_
            rintro e v2 ⟨rfl, hb9⟩
            replace P := Lib.hid (P.out.trans (hb9.mono P.out.size))
            clear hb9
            go_simp
            refine hK.out _ _ ?_ (fun hHeld => ?_)
            · exact ⟨(KS.out _ P.out).1, (KS.out _ P.out).2.1, (KS.out _ P.out).2.2⟩
            clear hK K
            (try simp only [Act.put])
            (try simp only [List.setIfInBounds_toArray])
            (try simp only [List.set_cons_succ])
            (try simp only [List.set_cons_zero])
            refine wpAnyH_take (i := 1) (oi := { dst := some 63, op := Op.move (Operand.tmp 62), type := 4, pos := "law.go:98", after := #[{ on := 0, ground := Ground.data }, { on := 0, ground := Ground.chain }], guard := none }) (v := ?d2_1xv1) rfl (by kernel_rfl) (by kernel_rfl) (by kernel_rfl) (fun _ _ _ h => h) (Or.inl ⟨by rfl, ?d2_1xy1⟩) (by assumption) ?d2_1xr1
            case d2_1xy1 => (intro w hSw; (try dsimp only at hSw); go_simp; try with_reducible rfl)
            (try simp only [Act.put])
            (try simp only [List.setIfInBounds_toArray])
            (try simp only [List.set_cons_succ])
            (try simp only [List.set_cons_zero])
            refine wpAnyH_take (i := 2) (oi := { dst := some 64, op := Op.move (Operand.tmp 11), type := 31, pos := "law.go:98", after := #[{ on := 1, ground := Ground.guard }], guard := some (1, true) }) (v := ?d2_2xv2) rfl (by kernel_rfl) (by kernel_rfl) (by kernel_rfl) (fun _ _ _ h => h) (Or.inl ⟨by rfl, ?d2_2xy2⟩) (by assumption) ?d2_2xr2
            case d2_2xy2 => (intro w hSw; (try dsimp only at hSw); go_simp; try with_reducible rfl)
            (try simp only [Act.put])
            (try simp only [List.setIfInBounds_toArray])
            (try simp only [List.set_cons_succ])
            (try simp only [List.set_cons_zero])
            refine wpAnyH_take (i := 3) (oi := { dst := some 65, op := Op.binOp BinOp.eql 31 (Operand.tmp 64) (Operand.const (Value.int IntKind.i64 0)) 31, type := 4, pos := "law.go:98", after := #[{ on := 2, ground := Ground.data }, { on := 1, ground := Ground.guard }], guard := some (1, true) }) (v := ?d2_3xv3) rfl (by kernel_rfl) (by kernel_rfl) (by kernel_rfl) (fun _ _ _ h => h) (Or.inl ⟨by rfl, ?d2_3xy3⟩) (by assumption) ?d2_3xr3
            case d2_3xy3 => (intro w hSw; (try dsimp only at hSw); go_simp; try with_reducible rfl)
            (try simp only [Act.put])
            (try simp only [List.setIfInBounds_toArray])
            (try simp only [List.set_cons_succ])
            (try simp only [List.set_cons_zero])
            refine wpAnyH_take (i := 4) (oi := { dst := some 66, op := Op.pick (Operand.tmp 63) (Operand.tmp 65) (Operand.const (Value.bool false)), type := 4, pos := "law.go:98", after := #[{ on := 1, ground := Ground.data }, { on := 3, ground := Ground.data }], guard := none }) (v := ?d2_4xv4) rfl (by kernel_rfl) (by kernel_rfl) (by kernel_rfl) (fun _ _ _ h => h) (Or.inl ⟨by rfl, ?d2_4xy4⟩) (by assumption) ?d2_4xr4
            case d2_4xy4 => (intro w hSw; (try dsimp only at hSw); go_simp; try with_reducible rfl)
            (try simp only [Act.put])
            (try simp only [List.setIfInBounds_toArray])
            (try simp only [List.set_cons_succ])
            (try simp only [List.set_cons_zero])
            refine wpAnyH_take (i := 5) (oi := { dst := some 67, op := Op.move (Operand.tmp 66), type := 4, pos := "law.go:98", after := #[{ on := 4, ground := Ground.data }, { on := 1, ground := Ground.chain }], guard := none }) (v := ?d2_5xv5) rfl (by kernel_rfl) (by kernel_rfl) (by kernel_rfl) (fun _ _ _ h => h) (Or.inl ⟨by rfl, ?d2_5xy5⟩) (by assumption) ?d2_5xr5
            case d2_5xy5 => (intro w hSw; (try dsimp only at hSw); go_simp; try with_reducible rfl)
            (try simp only [Act.put])
            (try simp only [List.setIfInBounds_toArray])
            (try simp only [List.set_cons_succ])
            (try simp only [List.set_cons_zero])
            refine wpAnyH_take (i := 6) (oi := { dst := some 68, op := Op.move (Operand.tmp 10), type := 4, pos := "law.go:98", after := #[{ on := 5, ground := Ground.guard }], guard := some (5, true) }) (v := ?d2_6xv6) rfl (by kernel_rfl) (by kernel_rfl) (by kernel_rfl) (fun _ _ _ h => h) (Or.inl ⟨by rfl, ?d2_6xy6⟩) (by assumption) ?d2_6xr6
            case d2_6xy6 => (intro w hSw; (try dsimp only at hSw); go_simp; try with_reducible rfl)
            (try simp only [Act.put])
            (try simp only [List.setIfInBounds_toArray])
            (try simp only [List.set_cons_succ])
            (try simp only [List.set_cons_zero])
            refine wpAnyH_take (i := 7) (oi := { dst := some 69, op := Op.move (Operand.tmp 12), type := 4, pos := "law.go:98", after := #[{ on := 5, ground := Ground.guard }], guard := some (5, true) }) (v := ?d2_7xv7) rfl (by kernel_rfl) (by kernel_rfl) (by kernel_rfl) (fun _ _ _ h => h) (Or.inl ⟨by rfl, ?d2_7xy7⟩) (by assumption) ?d2_7xr7
            case d2_7xy7 => (intro w hSw; (try dsimp only at hSw); go_simp; try with_reducible rfl)
            (try simp only [Act.put])
            (try simp only [List.setIfInBounds_toArray])
            (try simp only [List.set_cons_succ])
            (try simp only [List.set_cons_zero])
            refine wpAnyH_take (i := 8) (oi := { dst := some 70, op := Op.unOp UnOp.not 4 (Operand.tmp 69), type := 4, pos := "law.go:98", after := #[{ on := 7, ground := Ground.data }, { on := 5, ground := Ground.guard }], guard := some (5, true) }) (v := ?d2_8xv8) rfl (by kernel_rfl) (by kernel_rfl) (by kernel_rfl) (fun _ _ _ h => h) (Or.inl ⟨by rfl, ?d2_8xy8⟩) (by assumption) ?d2_8xr8
            case d2_8xy8 => (intro w hSw; (try dsimp only at hSw); go_simp; try with_reducible rfl)
            (try simp only [Act.put])
            (try simp only [List.setIfInBounds_toArray])
            (try simp only [List.set_cons_succ])
            (try simp only [List.set_cons_zero])
            refine wpAnyH_take (i := 9) (oi := { dst := some 71, op := Op.binOp BinOp.eql 4 (Operand.tmp 68) (Operand.tmp 70) 4, type := 4, pos := "law.go:98", after := #[{ on := 6, ground := Ground.data }, { on := 8, ground := Ground.data }, { on := 5, ground := Ground.guard }], guard := some (5, true) }) (v := ?d2_9xv9) rfl (by kernel_rfl) (by kernel_rfl) (by kernel_rfl) (fun _ _ _ h => h) (Or.inl ⟨by rfl, ?d2_9xy9⟩) (by assumption) ?d2_9xr9
            case d2_9xy9 => (intro w hSw; (try dsimp only at hSw); go_simp; try with_reducible rfl)
            (try simp only [Act.put])
            (try simp only [List.setIfInBounds_toArray])
            (try simp only [List.set_cons_succ])
            (try simp only [List.set_cons_zero])
            refine wpAnyH_take (i := 10) (oi := { dst := some 72, op := Op.pick (Operand.tmp 67) (Operand.tmp 71) (Operand.const (Value.bool false)), type := 4, pos := "law.go:98", after := #[{ on := 5, ground := Ground.data }, { on := 9, ground := Ground.data }], guard := none }) (v := ?d2_10xv10) rfl (by kernel_rfl) (by kernel_rfl) (by kernel_rfl) (fun _ _ _ h => h) (Or.inl ⟨by rfl, ?d2_10xy10⟩) (by assumption) ?d2_10xr10
            case d2_10xy10 => (intro w hSw; (try dsimp only at hSw); go_simp; try with_reducible rfl)
            (try simp only [Act.put])
            (try simp only [List.setIfInBounds_toArray])
            (try simp only [List.set_cons_succ])
            (try simp only [List.set_cons_zero])
            refine wpAnyH_take (i := 11) (oi := { dst := some 73, op := Op.move (Operand.tmp 72), type := 4, pos := "law.go:98", after := #[{ on := 10, ground := Ground.data }, { on := 5, ground := Ground.chain }], guard := none }) (v := ?d2_11xv11) rfl (by kernel_rfl) (by kernel_rfl) (by kernel_rfl) (fun _ _ _ h => h) (Or.inl ⟨by rfl, ?d2_11xy11⟩) (by assumption) ?d2_11xr11
            case d2_11xy11 => (intro w hSw; (try dsimp only at hSw); go_simp; try with_reducible rfl)
            (try simp only [Act.put])
            (try simp only [List.setIfInBounds_toArray])
            (try simp only [List.set_cons_succ])
            (try simp only [List.set_cons_zero])
            refine wpAnyH_take (i := 12) (oi := { dst := some 74, op := Op.load 27 (Operand.tmp 9), type := 27, pos := "law.go:98", after := #[{ on := 11, ground := Ground.guard }], guard := some (11, true) }) (v := ?d2_12xv12) rfl (by kernel_rfl) (by kernel_rfl) (by kernel_rfl) (fun _ _ _ h => h) (Or.inl ⟨by rfl, ?d2_12xy12⟩) (by assumption) ?d2_12xr12
            case d2_12xy12 => (intro w hSw; (try dsimp only at hSw); go_simp; try with_reducible rfl)
            (try simp only [Act.put])
            (try simp only [List.setIfInBounds_toArray])
            (try simp only [List.set_cons_succ])
            (try simp only [List.set_cons_zero])
            refine wpAnyH_take (i := 13) (oi := { dst := some 75, op := Op.load 27 (Operand.tmp 6), type := 27, pos := "law.go:98", after := #[{ on := 11, ground := Ground.guard }], guard := some (11, true) }) (v := ?d2_13xv13) rfl (by kernel_rfl) (by kernel_rfl) (by kernel_rfl) (fun _ _ _ h => h) (Or.inl ⟨by rfl, ?d2_13xy13⟩) (by assumption) ?d2_13xr13
            case d2_13xy13 => (intro w hSw; (try dsimp only at hSw); go_simp; try with_reducible rfl)
            (try simp only [Act.put])
            (try simp only [List.setIfInBounds_toArray])
            (try simp only [List.set_cons_succ])
            (try simp only [List.set_cons_zero])
            refine wpAnyH_ready (rs := [14]) (by kernel_rfl) (by simp) ?_
            refine AllReadyH.cons (o := { dst := some 76, op := Op.call { callee := Callee.value (Operand.func 21), args := #[Operand.tmp 75], argTypes := #[27] }, type := 22, pos := "law.go:98", after := #[{ on := 13, ground := Ground.data }, { on := 11, ground := Ground.chain }, { on := 11, ground := Ground.guard }], guard := some (11, true) }) rfl (fun K hK => ?_) AllReadyH.nil
            go_simp
            go_at_call 21
            refine (WN.out _ P.out).mono ?_
            rintro e v3 ⟨u9, rfl, hr9, hb9⟩
            obtain ⟨ua9, uc9, rfl, _⟩ := hr9.form
            have S9 := Lib.hid hr9.sk
            replace P := Lib.hid (P.out.trans (hb9.mono P.out.size))
            clear hb9 hr9
            go_simp
            refine hK.out _ _ ?_ (fun hHeld => ?_)
            · exact ⟨(KS.out _ P.out).1, (KS.out _ P.out).2.1, (KS.out _ P.out).2.2⟩
            clear hK K
            (try simp only [Act.put])
            (try simp only [List.setIfInBounds_toArray])
            (try simp only [List.set_cons_succ])
            (try simp only [List.set_cons_zero])
            refine wpAnyH_ready (rs := [15]) (by kernel_rfl) (by simp) ?_
            refine AllReadyH.cons (o := { dst := some 77, op := Op.call { callee := Callee.value (Operand.func 18), args := #[Operand.tmp 74, Operand.tmp 76], argTypes := #[27, 22] }, type := 4, pos := "law.go:98", after := #[{ on := 12, ground := Ground.data }, { on := 14, ground := Ground.data }, { on := 14, ground := Ground.chain }, { on := 11, ground := Ground.guard }], guard := some (11, true) }) rfl (fun K hK => ?_) AllReadyH.nil
            go_simp
            go_at_call 18
            refine (is_any _ R _ R _ (V8.out.below P.out) S9.out hrl).mono ?_
            rintro e v4 ⟨rfl, hb9⟩
            rw [decide_eq_true (Eq.refl R)]
            replace P := Lib.hid (P.out.trans (hb9.mono P.out.size))
            clear hb9
            go_simp
            refine hK.out _ _ ?_ (fun hHeld => ?_)
            · exact ⟨(KS.out _ P.out).1, (KS.out _ P.out).2.1, (KS.out _ P.out).2.2⟩
            clear hK K
            (try simp only [Act.put])
            (try simp only [List.setIfInBounds_toArray])
            (try simp only [List.set_cons_succ])
            (try simp only [List.set_cons_zero])
            refine wpAnyH_take (i := 16) (oi := { dst := some 78, op := Op.pick (Operand.tmp 73) (Operand.tmp 77) (Operand.const (Value.bool false)), type := 4, pos := "law.go:98", after := #[{ on := 11, ground := Ground.data }, { on := 15, ground := Ground.data }], guard := none }) (v := ?d4_14xv16) rfl (by kernel_rfl) (by kernel_rfl) (by kernel_rfl) (fun _ _ _ h => h) (Or.inl ⟨by rfl, ?d4_14xy16⟩) (by assumption) ?d4_14xr16
            case d4_14xy16 => (intro w hSw; (try dsimp only at hSw); go_simp; try with_reducible rfl)
            (try simp only [Act.put])
            (try simp only [List.setIfInBounds_toArray])
            (try simp only [List.set_cons_succ])
            (try simp only [List.set_cons_zero])
            refine wpAnyH_take (i := 17) (oi := { dst := some 79, op := Op.move (Operand.tmp 78), type := 4, pos := "law.go:98", after := #[{ on := 16, ground := Ground.data }, { on := 15, ground := Ground.chain }], guard := none }) (v := ?d4_15xv17) rfl (by kernel_rfl) (by kernel_rfl) (by kernel_rfl) (fun _ _ _ h => h) (Or.inl ⟨by rfl, ?d4_15xy17⟩) (by assumption) ?d4_15xr17
            case d4_15xy17 => (intro w hSw; (try dsimp only at hSw); go_simp; try with_reducible rfl)
            (try simp only [Act.put])
            (try simp only [List.setIfInBounds_toArray])
            (try simp only [List.set_cons_succ])
            (try simp only [List.set_cons_zero])
            refine wpAnyH_take (i := 18) (oi := { dst := some 80, op := Op.move (Operand.tmp 12), type := 4, pos := "law.go:98", after := #[{ on := 17, ground := Ground.guard }], guard := some (17, true) }) (v := ?d4_16xv18) rfl (by kernel_rfl) (by kernel_rfl) (by kernel_rfl) (fun _ _ _ h => h) (Or.inl ⟨by rfl, ?d4_16xy18⟩) (by assumption) ?d4_16xr18
            case d4_16xy18 => (intro w hSw; (try dsimp only at hSw); go_simp; try with_reducible rfl)
            (try simp only [Act.put])
            (try simp only [List.setIfInBounds_toArray])
            (try simp only [List.set_cons_succ])
            (try simp only [List.set_cons_zero])
            refine wpAnyH_take (i := 19) (oi := { dst := some 81, op := Op.move (Operand.tmp 80), type := 4, pos := "law.go:98", after := #[{ on := 18, ground := Ground.data }, { on := 17, ground := Ground.chain }, { on := 17, ground := Ground.guard }], guard := some (17, true) }) (v := ?d4_17xv19) rfl (by kernel_rfl) (by kernel_rfl) (by kernel_rfl) (fun _ _ _ h => h) (Or.inl ⟨by rfl, ?d4_17xy19⟩) (by assumption) ?d4_17xr19
            case d4_17xy19 => (intro w hSw; (try dsimp only at hSw); go_simp; try with_reducible rfl)
            (try simp only [Act.put])
            (try simp only [List.setIfInBounds_toArray])
            (try simp only [List.set_cons_succ])
            (try simp only [List.set_cons_zero])
            refine wpAnyH_take (i := 20) (oi := { dst := some 82, op := Op.load 27 (Operand.tmp 6), type := 27, pos := "law.go:98", after := #[{ on := 19, ground := Ground.guard }], guard := some (19, false) }) (v := undef) rfl (by kernel_rfl) (by kernel_rfl) (by kernel_rfl) (fun _ _ _ h => h) (Or.inr ⟨by kernel_rfl, rfl⟩) (by assumption) ?d4_18xr20
            (try simp only [Act.put])
            (try simp only [List.setIfInBounds_toArray])
            (try simp only [List.set_cons_succ])
            (try simp only [List.set_cons_zero])
            refine wpAnyH_take (i := 21) (oi := { dst := some 83, op := Op.load 27 (Operand.tmp 5), type := 27, pos := "law.go:98", after := #[{ on := 19, ground := Ground.guard }], guard := some (19, false) }) (v := undef) rfl (by kernel_rfl) (by kernel_rfl) (by kernel_rfl) (fun _ _ _ h => h) (Or.inr ⟨by kernel_rfl, rfl⟩) (by assumption) ?d4_19xr21
            (try simp only [Act.put])
            (try simp only [List.setIfInBounds_toArray])
            (try simp only [List.set_cons_succ])
            (try simp only [List.set_cons_zero])
            refine wpAnyH_take (i := 22) (oi := { dst := some 84, op := Op.call { callee := Callee.value (Operand.func 21), args := #[Operand.tmp 83], argTypes := #[27] }, type := 22, pos := "law.go:98", after := #[{ on := 21, ground := Ground.data }, { on := 19, ground := Ground.chain }, { on := 19, ground := Ground.guard }], guard := some (19, false) }) (v := undef) rfl (by kernel_rfl) (by kernel_rfl) (by kernel_rfl) (fun _ _ _ h => h) (Or.inr ⟨by kernel_rfl, rfl⟩) (by assumption) ?d4_20xr22
            (try simp only [Act.put])
            (try simp only [List.setIfInBounds_toArray])
            (try simp only [List.set_cons_succ])
            (try simp only [List.set_cons_zero])
            refine wpAnyH_take (i := 23) (oi := { dst := some 85, op := Op.call { callee := Callee.value (Operand.func 18), args := #[Operand.tmp 82, Operand.tmp 84], argTypes := #[27, 22] }, type := 4, pos := "law.go:98", after := #[{ on := 20, ground := Ground.data }, { on := 22, ground := Ground.data }, { on := 22, ground := Ground.chain }, { on := 19, ground := Ground.guard }], guard := some (19, false) }) (v := undef) rfl (by kernel_rfl) (by kernel_rfl) (by kernel_rfl) (fun _ _ _ h => h) (Or.inr ⟨by kernel_rfl, rfl⟩) (by assumption) ?d4_21xr23
            (try simp only [Act.put])
            (try simp only [List.setIfInBounds_toArray])
            (try simp only [List.set_cons_succ])
            (try simp only [List.set_cons_zero])
            refine wpAnyH_take (i := 24) (oi := { dst := some 86, op := Op.pick (Operand.tmp 81) (Operand.const (Value.bool true)) (Operand.tmp 85), type := 4, pos := "law.go:98", after := #[{ on := 19, ground := Ground.data }, { on := 23, ground := Ground.data }, { on := 17, ground := Ground.guard }], guard := some (17, true) }) (v := ?d4_22xv24) rfl (by kernel_rfl) (by kernel_rfl) (by kernel_rfl) (fun _ _ _ h => h) (Or.inl ⟨by rfl, ?d4_22xy24⟩) (by assumption) ?d4_22xr24
            case d4_22xy24 => (intro w hSw; (try dsimp only at hSw); go_simp; try with_reducible rfl)
            (try simp only [Act.put])
            (try simp only [List.setIfInBounds_toArray])
            (try simp only [List.set_cons_succ])
            (try simp only [List.set_cons_zero])
            refine wpAnyH_take (i := 25) (oi := { dst := some 87, op := Op.pick (Operand.tmp 79) (Operand.tmp 86) (Operand.const (Value.bool false)), type := 4, pos := "law.go:98", after := #[{ on := 17, ground := Ground.data }, { on := 24, ground := Ground.data }], guard := none }) (v := ?d4_23xv25) rfl (by kernel_rfl) (by kernel_rfl) (by kernel_rfl) (fun _ _ _ h => h) (Or.inl ⟨by rfl, ?d4_23xy25⟩) (by assumption) ?d4_23xr25
            case d4_23xy25 => (intro w hSw; (try dsimp only at hSw); go_simp; try with_reducible rfl)
            (try simp only [Act.put])
            (try simp only [List.setIfInBounds_toArray])
            (try simp only [List.set_cons_succ])
            (try simp only [List.set_cons_zero])
            refine wpAnyH_ready (rs := [26]) (by kernel_rfl) (by simp) ?_
            refine AllReadyH.cons (o := { dst := some 4, op := Op.assign (Operand.tmp 87), type := 4, pos := "law.go:98", after := #[{ on := 25, ground := Ground.data }, { on := 23, ground := Ground.chain }, { on := 0, ground := Ground.phase }, { on := 1, ground := Ground.phase }, { on := 2, ground := Ground.phase }, { on := 3, ground := Ground.phase }, { on := 4, ground := Ground.phase }, { on := 5, ground := Ground.phase }, { on := 6, ground := Ground.phase }, { on := 7, ground := Ground.phase }, { on := 8, ground := Ground.phase }, { on := 9, ground := Ground.phase }, { on := 10, ground := Ground.phase }, { on := 11, ground := Ground.phase }, { on := 12, ground := Ground.phase }, { on := 13, ground := Ground.phase }, { on := 14, ground := Ground.phase }, { on := 15, ground := Ground.phase }, { on := 16, ground := Ground.phase }, { on := 17, ground := Ground.phase }, { on := 18, ground := Ground.phase }, { on := 19, ground := Ground.phase }, { on := 20, ground := Ground.phase }, { on := 21, ground := Ground.phase }, { on := 22, ground := Ground.phase }, { on := 23, ground := Ground.phase }, { on := 24, ground := Ground.phase }, { on := 25, ground := Ground.phase }], guard := none }) rfl (fun K hK => ?_) AllReadyH.nil
            go_simp
            refine hK.out _ _ ?_ (fun hHeld => ?_)
            · exact ⟨(KS.out _ P.out).1, (KS.out _ P.out).2.1, (KS.out _ P.out).2.2⟩
            clear hK K
            (try simp only [Act.put])
            (try simp only [List.setIfInBounds_toArray])
            (try simp only [List.set_cons_succ])
            (try simp only [List.set_cons_zero])
            refine wpAnyH_done (by kernel_rfl) ?_ _
            clear hHeld
            go_wp2_with fail
            go_ret
            exact ⟨rfl, BO.out.trans (P.out.mono BO.out.size)⟩
          | false =>
            have EQ := Lib.hid (AG2.out rfl)
            go_upto_region 14 with fail
            go_region_held3 (fun wz => wz.cell? ⟨z, 0, none⟩ = some (.slice ua mn uc) ∧ wz.cell? ⟨y, 0, none⟩ = some (.slice va6 mn vc6) ∧ wz.cell? ⟨o, 0, none⟩ = some (.slice va8 mn vc8)) (first | exact KS.out _ P.out | exact KS.out _ (Below.refl _ _))
              (first
                | (go_at_call 9; (with_reducible refine (awake_any _).mono ?_); rintro e w9 ⟨rfl, hb9⟩; have P2 := Lib.hid (P.out.trans (hb9.mono P.out.size)); clear hb9 P; have P := P2; clear P2)
                | (go_at_call 21; (with_reducible refine (WN.out _ P.out).mono ?_); rintro e w9 ⟨u9, rfl, hr9, hb9⟩; obtain ⟨ua9, uc9, rfl, _⟩ := hr9.form; have S9 := Lib.hid hr9.sk; clear hr9; have P2 := Lib.hid (P.out.trans (hb9.mono P.out.size)); clear hb9 P; have P := P2; clear P2)
                | (go_at_call 21; (with_reducible refine (WM.out _ P.out).mono ?_); rintro e w9 ⟨u9, rfl, hr9, hb9⟩; obtain ⟨ua9, uc9, rfl, _⟩ := hr9.form; have S9 := Lib.hid hr9.sk; clear hr9; have P2 := Lib.hid (P.out.trans (hb9.mono P.out.size)); clear hb9 P; have P := P2; clear P2)
                | (go_at_call 18; (with_reducible refine (is_any _ R _ R _ (V8.out.below P.out) S9.out (by omega)).mono ?_); rintro e w10 ⟨rfl, hb9⟩; rw [decide_eq_true (by first | rfl | exact EQ.out)]; have P2 := Lib.hid (P.out.trans (hb9.mono P.out.size)); clear hb9 P; have P := P2; clear P2; clear S9)
                | (go_at_call 18; (with_reducible refine (is_any _ R _ X _ (V6.out.below P.out) S9.out (by omega)).mono ?_); rintro e w10 ⟨rfl, hb9⟩; rw [decide_eq_true (by first | rfl | exact EQ.out)]; have P2 := Lib.hid (P.out.trans (hb9.mono P.out.size)); clear hb9 P; have P := P2; clear P2; clear S9))
            go_wp2_with fail
            go_ret
            exact ⟨rfl, BO.out.trans (P.out.mono BO.out.size)⟩
    · have hx : R = X := NO.out (by
        by_cases h : c = 0
        · right
          cases ok with
          | true => exact absurd ⟨h, rfl⟩ hgo
          | false => rfl
        · left; exact h)
      subst hx
      have EQ := Lib.hid (Eq.refl R)
      have P := Lib.hid ((Below.refl W7.heap.size W7).drew)
      have NG := Lib.hid hgo
      clear hgo AG NO
      by_cases hc0 : c = 0
      · subst hc0
        cases ok with
        | true => exact absurd ⟨rfl, rfl⟩ NG.out
        | false =>
          go_upto_region 6 with fail
          go_region_held3 (fun wz => wz.cell? ⟨z, 0, none⟩ = some (.slice ua mn uc) ∧ wz.cell? ⟨y, 0, none⟩ = some (.slice va6 mn vc6)) (first | exact KS.out _ P.out | exact KS.out _ (Below.refl _ _))
            (first
              | (go_at_call 9; (with_reducible refine (awake_any _).mono ?_); rintro e w9 ⟨rfl, hb9⟩; have P2 := Lib.hid (P.out.trans (hb9.mono P.out.size)); clear hb9 P; have P := P2; clear P2)
              | (go_at_call 21; (with_reducible refine (WM.out _ P.out).mono ?_); rintro e w9 ⟨u9, rfl, hr9, hb9⟩; obtain ⟨ua9, uc9, rfl, _⟩ := hr9.form; have S9 := Lib.hid hr9.sk; clear hr9; have P2 := Lib.hid (P.out.trans (hb9.mono P.out.size)); clear hb9 P; have P := P2; clear P2)
              | (go_at_call 18; (with_reducible refine (is_any _ R _ R _ (V6.out.below P.out) S9.out (by omega)).mono ?_); rintro e w10 ⟨rfl, hb9⟩; rw [decide_eq_true (by first | rfl | exact EQ.out)]; have P2 := Lib.hid (P.out.trans (hb9.mono P.out.size)); clear hb9 P; have P := P2; clear P2; clear S9))
          go_wp2_with fail
          go_ret
          exact ⟨rfl, BB.out.trans (P.out.mono BB.out.size)⟩
      · have hc1 : (c != 0) = true := by rw [bne_iff_ne]; exact hc0
        go_upto_region 6 with fail
        go_region_held3 (fun wz => wz.cell? ⟨z, 0, none⟩ = some (.slice ua mn uc) ∧ wz.cell? ⟨y, 0, none⟩ = some (.slice va6 mn vc6)) (first | exact KS.out _ P.out | exact KS.out _ (Below.refl _ _))
          (first
            | (go_at_call 9; (with_reducible refine (awake_any _).mono ?_); rintro e w9 ⟨rfl, hb9⟩; have P2 := Lib.hid (P.out.trans (hb9.mono P.out.size)); clear hb9 P; have P := P2; clear P2)
            | (go_at_call 21; (with_reducible refine (WM.out _ P.out).mono ?_); rintro e w9 ⟨u9, rfl, hr9, hb9⟩; obtain ⟨ua9, uc9, rfl, _⟩ := hr9.form; have S9 := Lib.hid hr9.sk; clear hr9; have P2 := Lib.hid (P.out.trans (hb9.mono P.out.size)); clear hb9 P; have P := P2; clear P2)
            | (go_at_call 18; (with_reducible refine (is_any _ R _ R _ (V6.out.below P.out) S9.out (by omega)).mono ?_); rintro e w10 ⟨rfl, hb9⟩; rw [decide_eq_true (by first | rfl | exact EQ.out)]; have P2 := Lib.hid (P.out.trans (hb9.mono P.out.size)); clear hb9 P; have P := P2; clear P2; clear S9))
        go_wp2_with fail
        go_ret
        exact ⟨rfl, BB.out.trans (P.out.mono BB.out.size)⟩
end Go.Proofs.Ytmophafgmimhcaa
