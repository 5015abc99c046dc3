/- The walk through ReclaimSafe. -/
import Derived.Test.YtknnnjnnphdipaaRcCount
namespace Go.Proofs.Ytknnnjnnphdipaa
open Go.ChangeShapes Go.WideShapes Go.ChangeAt Go.RowKit Go.Maps
theorem run_mkmapC (w : World) : (Instr.makeMap 47 none).run Try.prog w = .ok (.map (some w.heap.size)) (w.alloc (.map #[] 0)) := by
  simp [Instr.makeMap]
theorem byE_not {x : It} {e : Int} (h : byE x e = false) : e = 0 ∨ ¬ x.2.1 ≤ e ∨ ¬ e ≤ x.2.2 := by
  have := of_decide_eq_false h
  omega
set_option maxRecDepth 100000 in
set_option maxHeartbeats 12800000 in
theorem safe_walk (v u z : Value) (l : List It) (A P : List Int) (w : World) (hv : PS w v l) (hu : IS w u A) (hz : IS w z P) (_ : OkL A) (op : OkL P) : Calls Try.prog 5 #[v, u, z] w (Good w) := by
  have HV := Lib.hid hv
  have HU := Lib.hid hu
  have HZ := Lib.hid hz
  have OP := Lib.hid op
  obtain ⟨a1, c1, rfl⟩ := hv.form
  obtain ⟨a2, c2, rfl⟩ := hu.form
  obtain ⟨a3, c3, rfl⟩ := hz.form
  clear hv hu hz op
  obtain ⟨n1, hn1⟩ : ∃ n, l.length = n := ⟨_, rfl⟩
  obtain ⟨n2, hn2⟩ : ∃ n, A.length = n := ⟨_, rfl⟩
  obtain ⟨n3, hn3⟩ : ∃ n, P.length = n := ⟨_, rfl⟩
  rw [hn1] at HV ⊢
  rw [hn2] at HU ⊢
  rw [hn3] at HZ ⊢
  have H1 := Lib.hid hn1
  have H2 := Lib.hid hn2
  have H3 := Lib.hid hn3
  clear hn1 hn2 hn3
  have ZS := Lib.hid zBag_size
  go_enter Try.func5, Try.ntmps5
  go_wp2_with fail
  refine (few_any _ _ _ l A P w HV.out HU.out HZ.out).mono ?_
  rintro e w' ⟨r, rfl, rfl, hr⟩
  rw [H1.out, H2.out, H3.out] at hr
  cases r with
  | false =>
    clear hr
    go_wp2_with fail
    refine (awake_any w).mono ?_
    rintro e w1 ⟨rfl, hb⟩
    have BB := Lib.hid hb
    clear hb
    go_wp2_with fail
    go_ret
    exact ⟨rfl, BB.out⟩
  | true =>
    obtain ⟨l1, l2, l3⟩ := hr rfl
    clear hr
    have zv := zero29
    go_wp2_with fail
    refine (bag_any _ l w HV.out (by rw [H1.out]; omega)).mono ?_
    rintro e w1 ⟨c, rv, cv, rfl, kv, kr, kb⟩
    have HG := Lib.hid (bagL_good l)
    obtain ⟨L, hL⟩ : ∃ L, bagL l = L := ⟨_, rfl⟩
    rw [hL] at kv kr HG
    clear hL
    have hL64 := kv.len
    have V1 := Lib.hid kv
    have CS := Lib.hid kv.size
    have R1 := Lib.hid kr
    have BW := Lib.hid kb
    obtain ⟨ra, rc, rfl⟩ := kr.form
    obtain ⟨m, hm⟩ : ∃ m, L.length = m := ⟨_, rfl⟩
    rw [hm] at R1 hL64 ⊢
    have HM := Lib.hid hm
    clear kv kr kb hm
    go_upto_region 4 with (first
      | ((with_reducible refine wpList_storeBag w1.heap.size c zBag 29 ?_ ?_ ?_ ?_ ?_ ?_ ?_); rfl; rfl; exact Box.new w1 zBag 29 rfl; exact ZS.out; exact CS.out; exact V1.out.one)
      | fail)
    obtain ⟨q, hq⟩ : ∃ x, w1.heap.size = x := ⟨_, rfl⟩
    obtain ⟨W, hW⟩ : ∃ W, (w1.alloc (.cells zBag 29)).setRow q c = W := ⟨_, rfl⟩
    have B1 : Hid (Box W q c 29) := Lib.hid (by rw [← hW]; exact Box.rowSame (Box.new w1 zBag 29 hq.symm))
    have BW1 : Hid (Below w.heap.size w W) := Lib.hid (by rw [← hW]; exact below_row (BW.out.alloc BW.out.size _) (by have := BW.out.size; omega) _)
    have R2 : Hid (PS W (.slice ra m rc) L) := Lib.hid (by rw [← hW]; exact Row3.ps (own_row (R1.out.below (below1 w1 (.cells zBag 29))) (Box.new w1 zBag 29 hq.symm) (by decide)))
    rw [hq, hW]
    clear hW hq BW R1 zv
    have U1 := Lib.hid (HU.out.below BW1.out)
    have Z1 := Lib.hid (HZ.out.below BW1.out)
    clear HU HZ HV
    have zv := zero29
    go_wp2_with (first
      | ((with_reducible refine wpList_loadBag q c 29 ?_ ?_ ?_ ?_); rfl; exact B1.out; exact CS.out)
      | fail)
    refine (sweep_any c L _ _ A P W V1.out HG.out U1.out Z1.out (by rw [H2.out]; omega) (by rw [H3.out]; omega) OP.out).mono ?_
    rintro e w4 ⟨cd, fv, F, rfl, k1, k2, k3, k4, hb⟩
    have GN := Lib.hid (fun j hj => gone_new HG.out k3 k4 (j := j) hj)
    have GL := Lib.hid (len_all HG.out k3 k4)
    have GA := Lib.hid (all_in k4)
    have GF := Lib.hid (fun k hk => gone_free HG.out (P := P) k4 (k := k) hk)
    have F6 := Lib.hid (show ∀ x ∈ F, 0 ≤ x ∧ x ≤ 63 from fun x hx => by
      obtain ⟨y, hy, _, rfl⟩ := (k4 x).1 hx
      have := HG.out.2 y hy
      omega)
    have AG := Lib.hid (again_all (L := L) (A := A) (P := P))
    have AN := Lib.hid (fun F hm => again_none (L := L) (A := A) (P := P) (F := F) hm)
    have KN := Lib.hid (fst_filter HG.out (protB A P))
    have KG : Hid (Good6 (L.filter (protB A P))) := Lib.hid ⟨KN.out, fun x hx => HG.out.2 x (List.mem_filter.1 hx).1⟩
    obtain ⟨K, hK⟩ : ∃ K, L.filter (protB A P) = K := ⟨_, rfl⟩
    rw [hK] at k1 GN GL GA AG AN KN KG
    clear hK
    have V2 := Lib.hid k1
    have CS2 := Lib.hid k1.size
    have hK64 := k1.len
    obtain ⟨fa, fc, rfl, -⟩ := k2.form
    obtain ⟨f, hf⟩ : ∃ f, F.length = f := ⟨_, rfl⟩
    have FV := Lib.hid k2.is
    rw [hf] at FV ⊢
    have HFL := Lib.hid hf
    have hf64 : f ≤ 64 := by
      have := GL.out
      rw [List.length_append, hf, HM.out] at this
      omega
    have B2 := Lib.hid (B1.out.below hb)
    have BW2 := Lib.hid (BW1.out.trans (hb.mono BW1.out.size))
    have U2 := Lib.hid (U1.out.below hb)
    have Z2 := Lib.hid (Z1.out.below hb)
    clear k1 k2 k3 k4 hb B1 BW1 U1 Z1 hf R2
    go_upto_region 5 with (first
      | ((with_reducible refine wpList_storeBag w4.heap.size cd zBag 29 ?_ ?_ ?_ ?_ ?_ ?_ ?_); rfl; rfl; exact Box.new w4 zBag 29 rfl; exact ZS.out; exact CS2.out; exact V2.out.one)
      | fail)
    obtain ⟨r, hr⟩ : ∃ x, w4.heap.size = x := ⟨_, rfl⟩
    obtain ⟨Y, hY⟩ : ∃ W, (w4.alloc (.cells zBag 29)).setRow r cd = W := ⟨_, rfl⟩
    have K5 : Hid (Box Y r cd 29) := Lib.hid (by rw [← hY]; exact Box.rowSame (Box.new w4 zBag 29 hr.symm))
    have BY : Hid (Below w4.heap.size w4 Y) := Lib.hid (by rw [← hY]; exact below_row (below1 w4 _) (by omega) _)
    have B3 := Lib.hid (B2.out.below BY.out)
    have BW3 := Lib.hid (BW2.out.trans (BY.out.mono BW2.out.size))
    have U3 := Lib.hid (U2.out.below BY.out)
    have Z3 := Lib.hid (Z2.out.below BY.out)
    have FV3 := Lib.hid (FV.out.below BY.out)
    rw [hr, hY]
    clear hr hY BY B2 BW2 U2 Z2 FV zv
    have mk := run_mkmapC
    go_upto_region 6 with fail
    clear mk
    obtain ⟨g, hg⟩ : ∃ x, Y.heap.size = x := ⟨_, rfl⟩
    obtain ⟨X, hX⟩ : ∃ X, Y.alloc (.map #[] 0) = X := ⟨_, rfl⟩
    have M0 : Hid (MapC X g []) := Lib.hid (by rw [← hX, ← hg]; exact MapC.made Y)
    have BX : Hid (Below Y.heap.size Y X) := Lib.hid (by rw [← hX]; exact below1 Y _)
    have hgs : Hid (Y.heap.size ≤ g) := Lib.hid (Nat.le_of_eq hg)
    have K6 := Lib.hid (K5.out.below BX.out)
    rw [hX, hg]
    clear hX hg
    go_wp2_with (first
      | ((with_reducible refine wpList_loadBag r cd 29 ?_ ?_ ?_ ?_); rfl; exact K6.out; exact CS2.out)
      | fail)
    refine (items_any cd K X V2.out).mono ?_
    rintro e w6 ⟨iv, rfl, hr, hb⟩
    obtain ⟨ia, ic, rfl⟩ := hr.form
    obtain ⟨p, hp⟩ : ∃ p, K.length = p := ⟨_, rfl⟩
    have P6 := Lib.hid hr.ps
    rw [hp] at P6 hK64 ⊢
    have HP := Lib.hid hp
    have M6 := Lib.hid (M0.out.below hb)
    have BX6 := Lib.hid (BX.out.trans (hb.mono BX.out.size))
    clear hr hb hp M0 BX K6
    go_wp2_with fail
    obtain ⟨wq, rfl⟩ : ∃ wq, wq = w6 := ⟨_, rfl⟩
    go_loopw [50] (fun iv wr => ∃ k : Nat, k ≤ p ∧ iv = .int .i64 k ∧ MapC wr g (fstL (K.take k)) ∧ Below Y.heap.size Y wr ∧ PS wr (.slice ia p ic) K) (fun iv _ => p - (intOf iv).toNat)
    case atStart => exact ⟨0, by omega, rfl, M6.out, BX6.out, P6.out⟩
    case round =>
      obtain ⟨k, hk, rfl, hM, hb, hP⟩ := hrel
      have MI := Lib.hid hM
      have BZ := Lib.hid hb
      have PP := Lib.hid hP
      clear hM hb hP M6 BX6 P6
      by_cases hlt : k < p
      · obtain ⟨b, off, rfl, hbl, hc⟩ := PP.out.addr hlt
        obtain ⟨c0, c1', c2'⟩ := hc k hlt
        have hgood := KG.out.2 _ (getD_mem3 (L := K) (k := k) (by rw [HP.out]; exact hlt))
        have hi64 : I64 (K.getD k zIt).1 := by unfold I64; omega
        have HT := Lib.hid (fst_succ K (k := k) (by rw [HP.out]; exact hlt))
        have HNEW := Lib.hid (fst_new KN.out (k := k) (by rw [HP.out]; exact hlt))
        clear hc hgood
        obtain ⟨y, hy⟩ : ∃ y, K.getD k zIt = y := ⟨_, rfl⟩
        rw [hy] at c0 c1' c2' hi64 HT HNEW
        clear hy
        obtain ⟨S, hS⟩ : ∃ S, fstL (K.take k) = S := ⟨_, rfl⟩
        rw [hS] at MI HT HNEW
        have hSl : S.length ≤ k := by rw [← hS]; unfold fstL; rw [List.length_map, List.length_take]; omega
        clear hS
        obtain ⟨y0, y1, y2⟩ := y
        simp only at c0 c1' c2' hi64 HT HNEW
        obtain ⟨wo, rfl⟩ : ∃ wo, wo = wr := ⟨_, rfl⟩
        go_upto_region 9 with fail
        obtain ⟨W2, hW2⟩ : ∃ W2, wo.alloc (.cells #[.int .i64 y0, .int .i64 y1, .int .i64 y2] 26) = W2 := ⟨_, rfl⟩
        obtain ⟨xb, hxb⟩ : ∃ g, wo.heap.size = g := ⟨_, rfl⟩
        have XB : Hid (Box W2 xb #[.int .i64 y0, .int .i64 y1, .int .i64 y2] 26) := Lib.hid (by rw [← hW2]; exact Box.new wo _ 26 hxb.symm)
        have RI : Hid (Below wo.heap.size wo W2) := Lib.hid (by rw [← hW2]; exact below1 wo _)
        replace MI := Lib.hid (MI.out.below RI.out)
        replace PP := Lib.hid (PP.out.below RI.out)
        replace BZ := Lib.hid (BZ.out.trans (RI.out.mono BZ.out.size))
        rw [hW2, hxb]
        clear hW2 hxb c0 c1' c2' RI
        have z0 := XB.out.cell 0
        simp at z0
        have lk := MI.out.look y0 hi64
        rw [oneI_no HNEW.out] at lk
        go_wp2_with (first
          | (at_mapUpdate; refine wpList_markC _ rfl _ _ _ rfl g S rfl MI.out (by omega) y0 rfl rfl hi64 HNEW.out ?_; intro w8 m8 g8; have M8 := Lib.hid m8; have B8 := Lib.hid (below_mark BZ.out BZ.out.size hgs.out g8); have P8 := Lib.hid (PP.out.markedC MI.out g8); clear m8 g8)
          | fail)
        go_roundw
        case rel => exact ⟨k + 1, by omega, by go_num, by rw [HT.out]; exact M8.out, B8.out, P8.out⟩
        case measure => simp [intOf]; omega
      · obtain rfl : k = p := by omega
        have LT : Hid (K.take k = K) := Lib.hid (List.take_of_length_le (by rw [HP.out]; exact Nat.le_refl _))
        rw [LT.out] at MI
        clear LT PP
        go_wp2_with fail
        obtain ⟨wq2, rfl⟩ : ∃ wq, wq = wr := ⟨_, rfl⟩
        have hfk : Hid ((fstL K).length = k) := Lib.hid (by unfold fstL; rw [List.length_map]; exact HP.out)
        go_loopw [62] (fun iv wr => ∃ j : Nat, j ≤ f ∧ iv = .int .i64 j ∧ MapC wr g (fstL K ++ F.take j) ∧ Below Y.heap.size Y wr) (fun iv _ => f - (intOf iv).toNat)
        case atStart => exact ⟨0, by omega, rfl, by rw [List.take_zero, List.append_nil]; exact MI.out, BZ.out⟩
        case round =>
          obtain ⟨j, hj, rfl, hM, hb⟩ := hrel
          have MJ := Lib.hid hM
          have BJ := Lib.hid hb
          clear hM hb MI BZ
          by_cases hjf : j < f
          · obtain ⟨fb, foff, rfl, hbl, hc⟩ := (FV3.out.below BJ.out).addr hjf
            have c0 := hc j hjf
            have hmem := getD_memI (L := F) (k := j) (by rw [HFL.out]; exact hjf)
            have hr6 := F6.out _ hmem
            have hfree := GF.out _ hmem
            have HNEW := Lib.hid (GN.out j (by rw [HFL.out]; exact hjf))
            have HT := Lib.hid (take_succ_getDJ F (k := j) (by rw [HFL.out]; exact hjf))
            clear hc hmem
            obtain ⟨x, hx⟩ : ∃ x, F.getD j 0 = x := ⟨_, rfl⟩
            rw [hx] at c0 hr6 hfree HNEW HT
            clear hx
            have HE := Lib.hid hfree.1
            have HH := Lib.hid hfree.2
            clear hfree
            obtain ⟨S, hS⟩ : ∃ S, fstL K ++ F.take j = S := ⟨_, rfl⟩
            have HT2 : Hid (fstL K ++ F.take (j + 1) = S ++ [x]) := Lib.hid (by rw [HT.out, ← hS, List.append_assoc])
            rw [hS] at MJ HNEW
            have hSl : S.length ≤ 200 := by rw [← hS, List.length_append, hfk.out, List.length_take]; omega
            clear hS HT
            obtain ⟨hx1, hx2⟩ := hr6
            have hi64 : I64 x := by unfold I64; omega
            have lk := MJ.out.look x hi64
            rw [oneI_no HNEW.out] at lk
            obtain ⟨wo, rfl⟩ : ∃ wo, wo = wr := ⟨_, rfl⟩
            go_upto_region 15 with (first
              | (at_mapUpdate; refine wpList_markC _ rfl _ _ _ rfl g S rfl MJ.out (by omega) x rfl rfl hi64 HNEW.out ?_; intro w8 m8 g8; have M8 := Lib.hid m8; have B8 := Lib.hid (below_mark BJ.out BJ.out.size hgs.out g8); clear m8 g8)
              | fail)
            clear lk c0
            have Bq := Lib.hid (B3.out.below B8.out)
            go_wp2_with (first
              | ((with_reducible refine wpList_loadBag q c 29 ?_ ?_ ?_ ?_); rfl; exact Bq.out; exact CS.out)
              | fail)
            refine (items_any c L w8 V1.out).mono ?_
            rintro e w9 ⟨jv, rfl, hr, hb⟩
            obtain ⟨ja, jc, rfl⟩ := hr.form
            have P9 := Lib.hid hr.ps
            rw [HM.out] at P9 ⊢
            have M9 := Lib.hid (M8.out.below hb)
            have B9 := Lib.hid (B8.out.trans (hb.mono B8.out.size))
            clear hr hb M8 B8 Bq MJ BJ
            go_wp2_with fail
            obtain ⟨wc, rfl⟩ : ∃ wq, wq = w9 := ⟨_, rfl⟩
            go_loopw [73] (fun iv wr => ∃ i : Nat, i ≤ m ∧ iv = .int .i64 i ∧ Below wc.heap.size wc wr) (fun iv _ => m - (intOf iv).toNat)
            case atStart => exact ⟨0, by omega, rfl, Below.refl _ _⟩
            case round =>
              obtain ⟨i, hi, rfl, hb⟩ := hrel
              have BC := Lib.hid hb
              clear hb
              by_cases him : i < m
              · obtain ⟨b, off, rfl, hbl, hc⟩ := P9.out.addr him
                obtain ⟨c0, c1', c2'⟩ := hc i him
                rw [← BC.out.cell (p := ⟨b, _, none⟩) hbl] at c0 c1' c2'
                have HY := Lib.hid (HE.out _ (getD_mem3 (L := L) (k := i) (by rw [HM.out]; exact him)))
                clear hc
                obtain ⟨y, hy⟩ : ∃ y, L.getD i zIt = y := ⟨_, rfl⟩
                rw [hy] at c0 c1' c2' HY
                clear hy
                obtain ⟨y0, y1, y2⟩ := y
                simp only at c0 c1' c2' HY
                obtain ⟨wd, rfl⟩ : ∃ wo, wo = wr := ⟨_, rfl⟩
                go_upto_region 18 with fail
                obtain ⟨W2, hW2⟩ : ∃ W2, wd.alloc (.cells #[.int .i64 y0, .int .i64 y1, .int .i64 y2] 26) = W2 := ⟨_, rfl⟩
                obtain ⟨xb, hxb⟩ : ∃ g, wd.heap.size = g := ⟨_, rfl⟩
                have XB : Hid (Box W2 xb #[.int .i64 y0, .int .i64 y1, .int .i64 y2] 26) := Lib.hid (by rw [← hW2]; exact Box.new wd _ 26 hxb.symm)
                have RI : Hid (Below wd.heap.size wd W2) := Lib.hid (by rw [← hW2]; exact below1 wd _)
                have BD := Lib.hid (BC.out.trans (RI.out.mono BC.out.size))
                rw [hW2, hxb]
                clear hW2 hxb c0 c1' c2' RI
                have z0 := XB.out.cell 0
                simp at z0
                by_cases hyx : y0 = x
                · have hne : (y0 != x) = false := by subst hyx; simp
                  have HZ := Lib.hid (HY.out hyx)
                  clear hyx HY
                  go_wp2_with fail
                  clear z0 hne
                  obtain ⟨we, rfl⟩ : ∃ wo, wo = W2 := ⟨_, rfl⟩
                  have UA := Lib.hid (U3.out.below (B9.out.trans (BD.out.mono B9.out.size)))
                  go_loopw [83] (fun iv wr => ∃ i : Nat, i ≤ n2 ∧ iv = .int .i64 i ∧ Below we.heap.size we wr) (fun iv _ => n2 - (intOf iv).toNat)
                  case atStart => exact ⟨0, by omega, rfl, Below.refl _ _⟩
                  case round =>
                    obtain ⟨t, ht, rfl, hb⟩ := hrel
                    have BE := Lib.hid hb
                    clear hb
                    by_cases htn : t < n2
                    · obtain ⟨b, off, rfl, hbl, hc⟩ := UA.out.addr htn
                      have c0 := hc t htn
                      rw [← BE.out.cell (p := ⟨b, _, none⟩) hbl] at c0
                      have hby := byE_not (HZ.out _ (getD_memI (L := A) (k := t) (by rw [H2.out]; exact htn)))
                      clear hc
                      obtain ⟨e, he⟩ : ∃ y, A.getD t 0 = y := ⟨_, rfl⟩
                      rw [he] at c0 hby
                      clear he
                      simp only at hby
                      have z1 := (XB.out.below BE.out).cell 1
                      have z2 := (XB.out.below BE.out).cell 2
                      simp at z1 z2
                      by_cases h0 : e = 0
                      · have h0' : (e != 0) = false := by subst h0; rfl
                        clear h0 hby
                        go_wp2_with fail
                        go_roundw
                        case rel => exact ⟨t + 1, by omega, by go_num, BE.out⟩
                        case measure => simp [intOf]; omega
                      · have h0' : (e != 0) = true := by rw [bne_iff_ne]; exact h0
                        by_cases h1 : y1 ≤ e
                        · have h2 : ¬ e ≤ y2 := by rcases hby with h | h | h; exact absurd h h0; exact absurd h1 h; exact h
                          clear h0 hby
                          go_wp2_with fail
                          go_roundw
                          case rel => exact ⟨t + 1, by omega, by go_num, BE.out⟩
                          case measure => simp [intOf]; omega
                        · clear h0 hby
                          go_wp2_with fail
                          go_roundw
                          case rel => exact ⟨t + 1, by omega, by go_num, BE.out⟩
                          case measure => simp [intOf]; omega
                    · obtain rfl : t = n2 := by omega
                      go_wp2_with fail
                      go_roundw
                      case rel => exact ⟨i + 1, by omega, by go_num, BD.out.trans (BE.out.mono BD.out.size)⟩
                      case measure => simp [intOf]; omega
                · have hne : (y0 != x) = true := by rw [bne_iff_ne]; exact hyx
                  clear hyx HY
                  go_wp2_with fail
                  go_roundw
                  case rel => exact ⟨i + 1, by omega, by go_num, BD.out⟩
                  case measure => simp [intOf]; omega
              · obtain rfl : i = m := by omega
                go_wp2_with fail
                obtain ⟨wc2, rfl⟩ : ∃ wq, wq = wr := ⟨_, rfl⟩
                have BF := Lib.hid (B9.out.trans (BC.out.mono B9.out.size))
                have ZA := Lib.hid (Z3.out.below BF.out)
                have M10 := Lib.hid (M9.out.below BC.out)
                clear B9 BC M9 P9
                go_loopw [105] (fun iv wr => ∃ i : Nat, i ≤ n3 ∧ iv = .int .i64 i ∧ Below wc2.heap.size wc2 wr) (fun iv _ => n3 - (intOf iv).toNat)
                case atStart => exact ⟨0, by omega, rfl, Below.refl _ _⟩
                case round =>
                  obtain ⟨t, ht, rfl, hb⟩ := hrel
                  have BE := Lib.hid hb
                  clear hb
                  by_cases htn : t < n3
                  · obtain ⟨b, off, rfl, hbl, hc⟩ := ZA.out.addr htn
                    have c0 := hc t htn
                    rw [← BE.out.cell (p := ⟨b, _, none⟩) hbl] at c0
                    have hne := HH.out _ (getD_memI (L := P) (k := t) (by rw [H3.out]; exact htn))
                    clear hc
                    obtain ⟨e, he⟩ : ∃ y, P.getD t 0 = y := ⟨_, rfl⟩
                    rw [he] at c0 hne
                    clear he
                    have hne' : (e == x + 1) = false := by rw [beq_eq_false_iff_ne]; exact hne
                    clear hne
                    go_wp2_with fail
                    go_roundw
                    case rel => exact ⟨t + 1, by omega, by go_num, BE.out⟩
                    case measure => simp [intOf]; omega
                  · obtain rfl : t = n3 := by omega
                    go_wp2_with fail
                    go_roundw
                    case rel => exact ⟨j + 1, by omega, by go_num, by rw [HT2.out]; exact M10.out.below BE.out, BF.out.trans (BE.out.mono BF.out.size)⟩
                    case measure => simp [intOf]; omega
          · obtain rfl : j = f := by omega
            have LT : Hid (F.take j = F) := Lib.hid (List.take_of_length_le (by rw [HFL.out]; exact Nat.le_refl _))
            rw [LT.out] at MJ
            clear LT
            have hSL := GL.out
            rw [HM.out] at hSL
            obtain ⟨S, hS⟩ : ∃ S, fstL K ++ F = S := ⟨_, rfl⟩
            rw [hS] at MJ hSL GA
            clear hS
            have HSL := Lib.hid hSL
            clear hSL
            have Bq := Lib.hid (B3.out.below BJ.out)
            go_wp2_with (first
              | ((with_reducible refine wpList_loadBag q c 29 ?_ ?_ ?_ ?_); rfl; exact Bq.out; exact CS.out)
              | fail)
            refine (items_any c L wr V1.out).mono ?_
            rintro e w9 ⟨jv, rfl, hr, hb⟩
            obtain ⟨ja, jc, rfl⟩ := hr.form
            have P9 := Lib.hid hr.ps
            rw [HM.out] at P9 ⊢
            have M9 := Lib.hid (MJ.out.below hb)
            have B9 := Lib.hid (BJ.out.trans (hb.mono BJ.out.size))
            clear hr hb MJ BJ Bq
            go_wp2_with fail
            obtain ⟨wc, rfl⟩ : ∃ wq, wq = w9 := ⟨_, rfl⟩
            go_loopw [118] (fun iv wr => ∃ i : Nat, i ≤ m ∧ iv = .int .i64 i ∧ Below wc.heap.size wc wr) (fun iv _ => m - (intOf iv).toNat)
            case atStart => exact ⟨0, by omega, rfl, Below.refl _ _⟩
            case round =>
              obtain ⟨i, hi, rfl, hb⟩ := hrel
              have BC := Lib.hid hb
              clear hb
              by_cases him : i < m
              · obtain ⟨b, off, rfl, hbl, hc⟩ := P9.out.addr him
                obtain ⟨c0, c1', c2'⟩ := hc i him
                rw [← BC.out.cell (p := ⟨b, _, none⟩) hbl] at c0 c1' c2'
                have hmem := getD_mem3 (L := L) (k := i) (by rw [HM.out]; exact him)
                have hin := oneI_yes (GA.out _ hmem)
                have hgood := HG.out.2 _ hmem
                have hi64 : I64 (L.getD i zIt).1 := by unfold I64; omega
                clear hc hmem hgood
                obtain ⟨y, hy⟩ : ∃ y, L.getD i zIt = y := ⟨_, rfl⟩
                rw [hy] at c0 c1' c2' hin hi64
                clear hy
                obtain ⟨y0, y1, y2⟩ := y
                simp only at c0 c1' c2' hin hi64
                obtain ⟨wd, rfl⟩ : ∃ wo, wo = wr := ⟨_, rfl⟩
                go_upto_region 36 with fail
                obtain ⟨W2, hW2⟩ : ∃ W2, wd.alloc (.cells #[.int .i64 y0, .int .i64 y1, .int .i64 y2] 26) = W2 := ⟨_, rfl⟩
                obtain ⟨xb, hxb⟩ : ∃ g, wd.heap.size = g := ⟨_, rfl⟩
                have XB : Hid (Box W2 xb #[.int .i64 y0, .int .i64 y1, .int .i64 y2] 26) := Lib.hid (by rw [← hW2]; exact Box.new wd _ 26 hxb.symm)
                have RI : Hid (Below wd.heap.size wd W2) := Lib.hid (by rw [← hW2]; exact below1 wd _)
                have BD := Lib.hid (BC.out.trans (RI.out.mono BC.out.size))
                rw [hW2, hxb]
                clear hW2 hxb c0 c1' c2' RI
                have z0 := XB.out.cell 0
                simp at z0
                have lk := (M9.out.below BD.out).look y0 hi64
                rw [hin] at lk
                go_wp2_with fail
                go_roundw
                case rel => exact ⟨i + 1, by omega, by go_num, BD.out⟩
                case measure => simp [intOf]; omega
              · obtain rfl : i = m := by omega
                have BE := Lib.hid (B9.out.trans (BC.out.mono B9.out.size))
                have ME := Lib.hid (M9.out.below BC.out)
                have KE := Lib.hid (K5.out.below BE.out)
                have QE := Lib.hid (B3.out.below BE.out)
                have UE := Lib.hid (U3.out.below BE.out)
                have ZE := Lib.hid (Z3.out.below BE.out)
                have BW := Lib.hid (BW3.out.trans (BE.out.mono BW3.out.size))
                clear B9 BC M9 P9 K5 B3 U3 Z3 BE BW3 FV3
                have zv := zero29
                go_wp2_with (first
                  | ((with_reducible refine wpList_loadBag r cd 29 ?_ ?_ ?_ ?_); rfl; exact KE.out; exact CS2.out)
                  | fail)
                refine (sweep_any cd K _ _ A P wr V2.out KG.out UE.out ZE.out (by rw [H2.out]; omega) (by rw [H3.out]; omega) OP.out).mono ?_
                rintro e w10 ⟨ce, gv, G, rfl, k1, k2, -, k4, hb⟩
                obtain rfl := AN.out _ k4
                rw [AG.out] at k1
                obtain ⟨ga, gc, rfl, -⟩ := k2.form
                rw [show ([] : List Int).length = 0 from rfl]
                have V3 := Lib.hid k1
                have CS3 := Lib.hid k1.size
                have M10 := Lib.hid (ME.out.below hb)
                have K10 := Lib.hid (KE.out.below hb)
                have Q10 := Lib.hid (QE.out.below hb)
                have BW10 := Lib.hid (BW.out.trans (hb.mono BW.out.size))
                clear k1 k2 k4 hb ME KE QE UE ZE BW
                have ltq := Q10.out.lt
                have ltr := K10.out.lt
                go_upto_region 40 with (first
                  | ((with_reducible refine wpList_storeBag w10.heap.size ce zBag 29 ?_ ?_ ?_ ?_ ?_ ?_ ?_); rfl; rfl; exact Box.new w10 zBag 29 rfl; exact ZS.out; exact CS3.out; exact V3.out.one)
                  | fail)
                clear zv
                obtain ⟨s, hs⟩ : ∃ x, w10.heap.size = x := ⟨_, rfl⟩
                obtain ⟨W, hW⟩ : ∃ W, (w10.alloc (.cells zBag 29)).setRow s ce = W := ⟨_, rfl⟩
                have SB : Hid (Box W s ce 29) := Lib.hid (by rw [← hW]; exact Box.rowSame (Box.new w10 zBag 29 hs.symm))
                have RI : Hid (Below w10.heap.size w10 W) := Lib.hid (by rw [← hW]; exact below_row (below1 w10 _) (by omega) _)
                have QB := Lib.hid (Q10.out.below RI.out)
                have KB := Lib.hid (K10.out.below RI.out)
                have MB := Lib.hid (M10.out.below RI.out)
                have BW := Lib.hid (BW10.out.trans (RI.out.mono BW10.out.size))
                rw [hs, hW]
                clear hs hW RI Q10 K10 M10 BW10 ltq ltr
                obtain ⟨lc, rfl⟩ : ∃ lc : List Value, c = lc.toArray := ⟨c.toList, by simp⟩
                obtain ⟨lk, rfl⟩ : ∃ lc : List Value, cd = lc.toArray := ⟨cd.toList, by simp⟩
                obtain ⟨ls, rfl⟩ : ∃ lc : List Value, ce = lc.toArray := ⟨ce.toList, by simp⟩
                have I1 : Hid ((Try.prog.info? 29).map (·.size) = some lc.length) := Lib.hid (by have e := V1.out.size; rw [List.size_toArray] at e; rw [e]; exact infoBag)
                have I2 : Hid ((Try.prog.info? 29).map (·.size) = some lk.length) := Lib.hid (by have e := V2.out.size; rw [List.size_toArray] at e; rw [e]; exact infoBag)
                have I3 : Hid ((Try.prog.info? 29).map (·.size) = some ls.length) := Lib.hid (by have e := V3.out.size; rw [List.size_toArray] at e; rw [e]; exact infoBag)
                refine wp_region_held_drew (S := fun wz => wz.rangeAt q 0 lc ∧ wz.rangeAt s 0 ls ∧ wz.rangeAt r 0 lk) (by kernel_rfl) (by simp only [World.rangeAt_drew]; exact ⟨box_range QB.out, box_range SB.out, box_range KB.out⟩) (fun hHeld => ?_)
                have RI : Hid (Below W.heap.size W W.drew) := Lib.hid ((Below.refl _ _).drew)
                replace SB := Lib.hid (SB.out.below (RI.out))
                replace QB := Lib.hid (QB.out.below (RI.out))
                replace KB := Lib.hid (KB.out.below (RI.out))
                replace MB := Lib.hid (MB.out.below (RI.out))
                replace BW := Lib.hid (BW.out.trans ((RI.out).mono BW.out.size))
                clear RI
                generalize World.drew W = V at SB QB KB MB BW hHeld ⊢
                refine wpAnyH_ready (rs := [0]) (by kernel_rfl) (by simp) ?_
                refine AllReadyH.cons (o := { dst := some 135, op := Op.call { callee := Callee.value (Operand.func 9), args := #[], argTypes := #[] }, type := 4, pos := "law.go:137", after := #[], guard := none }) rfl (fun K0 hK => ?_) AllReadyH.nil
                go_simp
                go_at_call 9
                refine (awake_any V).mono ?_
                rintro e w_0 ⟨rfl, hb⟩
                replace SB := Lib.hid (SB.out.below (hb))
                replace QB := Lib.hid (QB.out.below (hb))
                replace KB := Lib.hid (KB.out.below (hb))
                replace MB := Lib.hid (MB.out.below (hb))
                replace BW := Lib.hid (BW.out.trans ((hb).mono BW.out.size))
                clear hb
                go_simp
                refine hK.out _ _ ?_ (fun hHeld => ?_)
                · exact ⟨box_range QB.out, box_range SB.out, box_range KB.out⟩
                clear hK K0
                (try simp only [Act.put])
                (try simp only [List.setIfInBounds_toArray])
                (try simp only [List.set_cons_succ])
                (try simp only [List.set_cons_zero])
                refine wpAnyH_take (i := 1) (oi := { dst := some 136, op := Op.move (Operand.tmp 135), type := 4, pos := "law.go:137", after := #[{ on := 0, ground := Ground.data }, { on := 0, ground := Ground.chain }], guard := none }) (v := ?v1) rfl (by kernel_rfl) (by kernel_rfl) (by kernel_rfl) (fun _ _ _ h => h) (Or.inl ⟨by rfl, ?y1⟩) (by assumption) ?r1
                case y1 => (intro w hSw; (try dsimp only at hSw); go_simp; try with_reducible rfl)
                (try simp only [Act.put])
                (try simp only [List.setIfInBounds_toArray])
                (try simp only [List.set_cons_succ])
                (try simp only [List.set_cons_zero])
                refine wpAnyH_take (i := 2) (oi := { dst := some 137, op := Op.move (Operand.tmp 12), type := 47, pos := "law.go:137", after := #[{ on := 1, ground := Ground.guard }], guard := some (1, true) }) (v := ?v2) rfl (by kernel_rfl) (by kernel_rfl) (by kernel_rfl) (fun _ _ _ h => h) (Or.inl ⟨by rfl, ?y2⟩) (by assumption) ?r2
                case y2 => (intro w hSw; (try dsimp only at hSw); go_simp; try with_reducible rfl)
                (try simp only [Act.put])
                (try simp only [List.setIfInBounds_toArray])
                (try simp only [List.set_cons_succ])
                (try simp only [List.set_cons_zero])
                refine wpAnyH_take (i := 4) (oi := { dst := some 139, op := Op.load 29 (Operand.tmp 7), type := 29, pos := "law.go:137", after := #[{ on := 1, ground := Ground.guard }], guard := some (1, true) }) (v := .agg lc.toArray) rfl (by kernel_rfl) (by kernel_rfl) (by kernel_rfl) (fun _ _ _ h => h) (yieldsIf_load_mid (by rfl) 29 (.tmp 7) rfl q 0 rfl lc _ (fun _ h => h.1) Try.underlying29 rfl I1.out) (by assumption) ?_
                (try simp only [Act.put])
                (try simp only [List.setIfInBounds_toArray])
                (try simp only [List.set_cons_succ])
                (try simp only [List.set_cons_zero])
                have ln := MB.out.len
                rw [HSL.out] at ln
                refine wpAnyH_ready (rs := [3]) (by kernel_rfl) (by simp) ?_
                refine AllReadyH.cons (o := { dst := some 138, op := Op.call { callee := Callee.builtin Builtin.len, args := #[Operand.tmp 137], argTypes := #[47] }, type := 3, pos := "law.go:137", after := #[{ on := 2, ground := Ground.data }, { on := 1, ground := Ground.chain }, { on := 1, ground := Ground.guard }], guard := some (1, true) }) rfl (fun K0 hK => ?_) AllReadyH.nil
                go_simp
                refine hK.out _ _ ?_ (fun hHeld => ?_)
                · exact ⟨box_range QB.out, box_range SB.out, box_range KB.out⟩
                clear hK K0
                (try simp only [Act.put])
                (try simp only [List.setIfInBounds_toArray])
                (try simp only [List.set_cons_succ])
                (try simp only [List.set_cons_zero])
                clear ln
                refine wpAnyH_ready (rs := [5]) (by kernel_rfl) (by simp) ?_
                refine AllReadyH.cons (o := { dst := some 140, op := Op.call { callee := Callee.value (Operand.func 17), args := #[Operand.tmp 139], argTypes := #[29] }, type := 3, pos := "law.go:137", after := #[{ on := 4, ground := Ground.data }, { on := 3, ground := Ground.chain }, { on := 1, ground := Ground.guard }], guard := some (1, true) }) rfl (fun K0 hK => ?_) AllReadyH.nil
                go_simp
                go_at_call 17
                refine (len_any lc.toArray L _ V1.out).mono ?_
                rintro e w_5 ⟨rfl, hb⟩
                replace SB := Lib.hid (SB.out.below (hb))
                replace QB := Lib.hid (QB.out.below (hb))
                replace KB := Lib.hid (KB.out.below (hb))
                replace MB := Lib.hid (MB.out.below (hb))
                replace BW := Lib.hid (BW.out.trans ((hb).mono BW.out.size))
                clear hb
                rw [HM.out]
                go_simp
                refine hK.out _ _ ?_ (fun hHeld => ?_)
                · exact ⟨box_range QB.out, box_range SB.out, box_range KB.out⟩
                clear hK K0
                (try simp only [Act.put])
                (try simp only [List.setIfInBounds_toArray])
                (try simp only [List.set_cons_succ])
                (try simp only [List.set_cons_zero])
                refine wpAnyH_take (i := 6) (oi := { dst := some 141, op := Op.binOp BinOp.eql 3 (Operand.tmp 138) (Operand.tmp 140) 3, type := 4, pos := "law.go:137", after := #[{ on := 3, ground := Ground.data }, { on := 5, ground := Ground.data }, { on := 1, ground := Ground.guard }], guard := some (1, true) }) (v := ?v6) rfl (by kernel_rfl) (by kernel_rfl) (by kernel_rfl) (fun _ _ _ h => h) (Or.inl ⟨by rfl, ?y6⟩) (by assumption) ?r6
                case y6 => (intro w hSw; (try dsimp only at hSw); go_simp; try with_reducible rfl)
                (try simp only [Act.put])
                (try simp only [List.setIfInBounds_toArray])
                (try simp only [List.set_cons_succ])
                (try simp only [List.set_cons_zero])
                refine wpAnyH_take (i := 7) (oi := { dst := some 142, op := Op.pick (Operand.tmp 136) (Operand.tmp 141) (Operand.const (Value.bool false)), type := 4, pos := "law.go:137", after := #[{ on := 1, ground := Ground.data }, { on := 6, ground := Ground.data }], guard := none }) (v := ?v7) rfl (by kernel_rfl) (by kernel_rfl) (by kernel_rfl) (fun _ _ _ h => h) (Or.inl ⟨by rfl, ?y7⟩) (by assumption) ?r7
                case y7 => (intro w hSw; (try dsimp only at hSw); go_simp; try with_reducible rfl)
                (try simp only [Act.put])
                (try simp only [List.setIfInBounds_toArray])
                (try simp only [List.set_cons_succ])
                (try simp only [List.set_cons_zero])
                refine wpAnyH_take (i := 8) (oi := { dst := some 143, op := Op.move (Operand.tmp 142), type := 4, pos := "law.go:137", after := #[{ on := 7, ground := Ground.data }, { on := 5, ground := Ground.chain }], guard := none }) (v := ?v8) rfl (by kernel_rfl) (by kernel_rfl) (by kernel_rfl) (fun _ _ _ h => h) (Or.inl ⟨by rfl, ?y8⟩) (by assumption) ?r8
                case y8 => (intro w hSw; (try dsimp only at hSw); go_simp; try with_reducible rfl)
                (try simp only [Act.put])
                (try simp only [List.setIfInBounds_toArray])
                (try simp only [List.set_cons_succ])
                (try simp only [List.set_cons_zero])
                refine wpAnyH_take (i := 9) (oi := { dst := some 144, op := Op.move (Operand.tmp 26), type := 44, pos := "law.go:137", after := #[{ on := 8, ground := Ground.guard }], guard := some (8, true) }) (v := ?v9) rfl (by kernel_rfl) (by kernel_rfl) (by kernel_rfl) (fun _ _ _ h => h) (Or.inl ⟨by rfl, ?y9⟩) (by assumption) ?r9
                case y9 => (intro w hSw; (try dsimp only at hSw); go_simp; try with_reducible rfl)
                (try simp only [Act.put])
                (try simp only [List.setIfInBounds_toArray])
                (try simp only [List.set_cons_succ])
                (try simp only [List.set_cons_zero])
                refine wpAnyH_take (i := 10) (oi := { dst := some 145, op := Op.call { callee := Callee.builtin Builtin.len, args := #[Operand.tmp 144], argTypes := #[44] }, type := 3, pos := "law.go:137", after := #[{ on := 9, ground := Ground.data }, { on := 8, ground := Ground.guard }], guard := some (8, true) }) (v := ?v10) rfl (by kernel_rfl) (by kernel_rfl) (by kernel_rfl) (fun _ _ _ h => h) (Or.inl ⟨by rfl, ?y10⟩) (by assumption) ?r10
                case y10 => (intro w hSw; (try dsimp only at hSw); go_simp; try with_reducible rfl)
                (try simp only [Act.put])
                (try simp only [List.setIfInBounds_toArray])
                (try simp only [List.set_cons_succ])
                (try simp only [List.set_cons_zero])
                refine wpAnyH_take (i := 11) (oi := { dst := some 146, op := Op.binOp BinOp.eql 3 (Operand.tmp 145) (Operand.const (Value.int IntKind.i64 0)) 3, type := 4, pos := "law.go:137", after := #[{ on := 10, ground := Ground.data }, { on := 8, ground := Ground.guard }], guard := some (8, true) }) (v := ?v11) rfl (by kernel_rfl) (by kernel_rfl) (by kernel_rfl) (fun _ _ _ h => h) (Or.inl ⟨by rfl, ?y11⟩) (by assumption) ?r11
                case y11 => (intro w hSw; (try dsimp only at hSw); go_simp; try with_reducible rfl)
                (try simp only [Act.put])
                (try simp only [List.setIfInBounds_toArray])
                (try simp only [List.set_cons_succ])
                (try simp only [List.set_cons_zero])
                refine wpAnyH_take (i := 12) (oi := { dst := some 147, op := Op.pick (Operand.tmp 143) (Operand.tmp 146) (Operand.const (Value.bool false)), type := 4, pos := "law.go:137", after := #[{ on := 8, ground := Ground.data }, { on := 11, ground := Ground.data }], guard := none }) (v := ?v12) rfl (by kernel_rfl) (by kernel_rfl) (by kernel_rfl) (fun _ _ _ h => h) (Or.inl ⟨by rfl, ?y12⟩) (by assumption) ?r12
                case y12 => (intro w hSw; (try dsimp only at hSw); go_simp; try with_reducible rfl)
                (try simp only [Act.put])
                (try simp only [List.setIfInBounds_toArray])
                (try simp only [List.set_cons_succ])
                (try simp only [List.set_cons_zero])
                refine wpAnyH_take (i := 13) (oi := { dst := some 148, op := Op.move (Operand.tmp 147), type := 4, pos := "law.go:137", after := #[{ on := 12, ground := Ground.data }, { on := 8, ground := Ground.chain }], guard := none }) (v := ?v13) rfl (by kernel_rfl) (by kernel_rfl) (by kernel_rfl) (fun _ _ _ h => h) (Or.inl ⟨by rfl, ?y13⟩) (by assumption) ?r13
                case y13 => (intro w hSw; (try dsimp only at hSw); go_simp; try with_reducible rfl)
                (try simp only [Act.put])
                (try simp only [List.setIfInBounds_toArray])
                (try simp only [List.set_cons_succ])
                (try simp only [List.set_cons_zero])
                refine wpAnyH_take (i := 14) (oi := { dst := some 149, op := Op.load 29 (Operand.tmp 25), type := 29, pos := "law.go:137", after := #[{ on := 13, ground := Ground.guard }], guard := some (13, true) }) (v := .agg ls.toArray) rfl (by kernel_rfl) (by kernel_rfl) (by kernel_rfl) (fun _ _ _ h => h) (yieldsIf_load_mid (by rfl) 29 (.tmp 25) rfl s 0 rfl ls _ (fun _ h => h.2.1) Try.underlying29 rfl I3.out) (by assumption) ?_
                (try simp only [Act.put])
                (try simp only [List.setIfInBounds_toArray])
                (try simp only [List.set_cons_succ])
                (try simp only [List.set_cons_zero])
                refine wpAnyH_take (i := 16) (oi := { dst := some 151, op := Op.load 29 (Operand.tmp 10), type := 29, pos := "law.go:137", after := #[{ on := 13, ground := Ground.guard }], guard := some (13, true) }) (v := .agg lk.toArray) rfl (by kernel_rfl) (by kernel_rfl) (by kernel_rfl) (fun _ _ _ h => h) (yieldsIf_load_mid (by rfl) 29 (.tmp 10) rfl r 0 rfl lk _ (fun _ h => h.2.2) Try.underlying29 rfl I2.out) (by assumption) ?_
                (try simp only [Act.put])
                (try simp only [List.setIfInBounds_toArray])
                (try simp only [List.set_cons_succ])
                (try simp only [List.set_cons_zero])
                refine wpAnyH_ready (rs := [15]) (by kernel_rfl) (by simp) ?_
                refine AllReadyH.cons (o := { dst := some 150, op := Op.call { callee := Callee.value (Operand.func 17), args := #[Operand.tmp 149], argTypes := #[29] }, type := 3, pos := "law.go:137", after := #[{ on := 14, ground := Ground.data }, { on := 13, ground := Ground.chain }, { on := 13, ground := Ground.guard }], guard := some (13, true) }) rfl (fun K0 hK => ?_) AllReadyH.nil
                go_simp
                go_at_call 17
                refine (len_any ls.toArray K _ V3.out).mono ?_
                rintro e w_15 ⟨rfl, hb⟩
                replace SB := Lib.hid (SB.out.below (hb))
                replace QB := Lib.hid (QB.out.below (hb))
                replace KB := Lib.hid (KB.out.below (hb))
                replace MB := Lib.hid (MB.out.below (hb))
                replace BW := Lib.hid (BW.out.trans ((hb).mono BW.out.size))
                clear hb
                rw [HP.out]
                go_simp
                refine hK.out _ _ ?_ (fun hHeld => ?_)
                · exact ⟨box_range QB.out, box_range SB.out, box_range KB.out⟩
                clear hK K0
                (try simp only [Act.put])
                (try simp only [List.setIfInBounds_toArray])
                (try simp only [List.set_cons_succ])
                (try simp only [List.set_cons_zero])
                refine wpAnyH_ready (rs := [17]) (by kernel_rfl) (by simp) ?_
                refine AllReadyH.cons (o := { dst := some 152, op := Op.call { callee := Callee.value (Operand.func 17), args := #[Operand.tmp 151], argTypes := #[29] }, type := 3, pos := "law.go:137", after := #[{ on := 16, ground := Ground.data }, { on := 15, ground := Ground.chain }, { on := 13, ground := Ground.guard }], guard := some (13, true) }) rfl (fun K0 hK => ?_) AllReadyH.nil
                go_simp
                go_at_call 17
                refine (len_any lk.toArray K _ V2.out).mono ?_
                rintro e w_17 ⟨rfl, hb⟩
                replace SB := Lib.hid (SB.out.below (hb))
                replace QB := Lib.hid (QB.out.below (hb))
                replace KB := Lib.hid (KB.out.below (hb))
                replace MB := Lib.hid (MB.out.below (hb))
                replace BW := Lib.hid (BW.out.trans ((hb).mono BW.out.size))
                clear hb
                rw [HP.out]
                go_simp
                refine hK.out _ _ ?_ (fun hHeld => ?_)
                · exact ⟨box_range QB.out, box_range SB.out, box_range KB.out⟩
                clear hK K0
                (try simp only [Act.put])
                (try simp only [List.setIfInBounds_toArray])
                (try simp only [List.set_cons_succ])
                (try simp only [List.set_cons_zero])
                refine wpAnyH_take (i := 18) (oi := { dst := some 153, op := Op.binOp BinOp.eql 3 (Operand.tmp 150) (Operand.tmp 152) 3, type := 4, pos := "law.go:137", after := #[{ on := 15, ground := Ground.data }, { on := 17, ground := Ground.data }, { on := 13, ground := Ground.guard }], guard := some (13, true) }) (v := ?v18) rfl (by kernel_rfl) (by kernel_rfl) (by kernel_rfl) (fun _ _ _ h => h) (Or.inl ⟨by rfl, ?y18⟩) (by assumption) ?r18
                case y18 => (intro w hSw; (try dsimp only at hSw); go_simp; try with_reducible rfl)
                (try simp only [Act.put])
                (try simp only [List.setIfInBounds_toArray])
                (try simp only [List.set_cons_succ])
                (try simp only [List.set_cons_zero])
                refine wpAnyH_take (i := 19) (oi := { dst := some 154, op := Op.pick (Operand.tmp 148) (Operand.tmp 153) (Operand.const (Value.bool false)), type := 4, pos := "law.go:137", after := #[{ on := 13, ground := Ground.data }, { on := 18, ground := Ground.data }], guard := none }) (v := ?v19) rfl (by kernel_rfl) (by kernel_rfl) (by kernel_rfl) (fun _ _ _ h => h) (Or.inl ⟨by rfl, ?y19⟩) (by assumption) ?r19
                case y19 => (intro w hSw; (try dsimp only at hSw); go_simp; try with_reducible rfl)
                (try simp only [Act.put])
                (try simp only [List.setIfInBounds_toArray])
                (try simp only [List.set_cons_succ])
                (try simp only [List.set_cons_zero])
                refine wpAnyH_ready (rs := [20]) (by kernel_rfl) (by simp) ?_
                refine AllReadyH.cons (o := { dst := some 6, op := Op.assign (Operand.tmp 154), type := 4, pos := "law.go:137", after := #[{ on := 19, ground := Ground.data }, { on := 17, ground := Ground.chain }, { on := 0, ground := Ground.phase }, { on := 1, ground := Ground.phase }, { on := 2, ground := Ground.phase }, { on := 3, ground := Ground.phase }, { on := 4, ground := Ground.phase }, { on := 5, ground := Ground.phase }, { on := 6, ground := Ground.phase }, { on := 7, ground := Ground.phase }, { on := 8, ground := Ground.phase }, { on := 9, ground := Ground.phase }, { on := 10, ground := Ground.phase }, { on := 11, ground := Ground.phase }, { on := 12, ground := Ground.phase }, { on := 13, ground := Ground.phase }, { on := 14, ground := Ground.phase }, { on := 15, ground := Ground.phase }, { on := 16, ground := Ground.phase }, { on := 17, ground := Ground.phase }, { on := 18, ground := Ground.phase }, { on := 19, ground := Ground.phase }], guard := none }) rfl (fun K0 hK => ?_) AllReadyH.nil
                go_simp
                refine hK.out _ _ ?_ (fun hHeld => ?_)
                · exact ⟨box_range QB.out, box_range SB.out, box_range KB.out⟩
                clear hK K0
                (try simp only [Act.put])
                (try simp only [List.setIfInBounds_toArray])
                (try simp only [List.set_cons_succ])
                (try simp only [List.set_cons_zero])
                refine wpAnyH_done (by kernel_rfl) ?_ _
                clear hHeld
                go_wp2_with fail
                go_ret
                exact ⟨rfl, BW.out⟩
end Go.Proofs.Ytknnnjnnphdipaa
