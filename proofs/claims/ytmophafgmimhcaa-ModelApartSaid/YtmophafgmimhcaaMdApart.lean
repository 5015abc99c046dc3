/- The walk through ModelApart. -/
import Derived.Test.YtmophafgmimhcaaMdSet
namespace Go.Proofs.Ytmophafgmimhcaa
open Go.ChangeShapes Go.WideShapes Go.ChangeAt Go.RowKit Go.Maps
set_option maxRecDepth 100000 in
set_option maxHeartbeats 6400000 in
theorem apart_walk (wv v u : Value) (M : List Wd) (A B : List En) (w : World) (hm : WS w wv M) (hv : ES w v A) (hu : ES w u B) (_ : ∀ x ∈ M, OkW x) (oa : ∀ x ∈ A, OkE x) (ob : ∀ x ∈ B, OkE x) (_ : M.length ≤ maxLen) (_ : A.length ≤ maxLen) (_ : B.length ≤ maxLen) : Calls Try.prog 6 #[wv, v, u] w (Good w) := by
  have HM := Lib.hid hm
  have HV := Lib.hid hv
  have HU := Lib.hid hu
  have OA := Lib.hid oa
  have OB := Lib.hid ob
  obtain ⟨va, vc, rfl, hcap⟩ := hv.form
  obtain ⟨ba, bc, rfl, hcap2⟩ := hu.form
  obtain ⟨ma, mc, rfl, _⟩ := hm.form
  clear hm hv hu oa ob
  obtain ⟨n, hn⟩ : ∃ n, A.length = n := ⟨_, rfl⟩
  obtain ⟨n2, hn2⟩ : ∃ n, B.length = n := ⟨_, rfl⟩
  obtain ⟨mn, hmn⟩ : ∃ n, M.length = n := ⟨_, rfl⟩
  rw [hn] at HV hcap ⊢
  rw [hn2] at HU hcap2 ⊢
  rw [hmn] at HM ⊢
  have HN := Lib.hid hn
  have HN2 := Lib.hid hn2
  have HMN := Lib.hid hmn
  clear hn hn2 hmn
  have FW := Lib.hid (few_any _ M _ [(va, n, vc), (ba, n2, bc)] _ (HM.out.below (below1 w (.cells #[.slice va n vc, .slice ba n2 bc] 30))) few2 (by simp [maxLen]))
  rw [HMN.out] at FW
  have BB := Lib.hid (below1 w (.cells #[.slice va n vc, .slice ba n2 bc] 30))
  have mk := run_mkmap
  go_enter Try.func6, Try.ntmps6
  go_wp2_with fail
  refine FW.out.mono ?_
  rintro e w1 ⟨b, rfl, hb, hsm⟩
  replace BB := Lib.hid (BB.out.trans (hb.mono BB.out.size))
  clear hb FW
  cases b with
  | false =>
    go_wp2_with fail
    refine (awake_any _).mono ?_
    rintro e w9 ⟨rfl, hb⟩
    replace BB := Lib.hid (BB.out.trans (hb.mono BB.out.size))
    clear hb
    go_wp2_with fail
    go_ret
    exact ⟨rfl, BB.out⟩
  | true =>
    obtain ⟨s1, _, s2⟩ := hsm rfl
    have hn12 : n ≤ 12 := s2 0 (by simp)
    have hn212 : n2 ≤ 12 := s2 1 (by simp)
    clear hsm s2
    go_upto_region 4 with fail
    clear mk
    obtain ⟨q, hq⟩ : ∃ q, w1.heap.size = q := ⟨_, rfl⟩
    have M0 : Hid (MapS (w1.alloc (.map #[] 0)) q 0 []) := Lib.hid (by rw [← hq]; exact MapS.made w1)
    have HQ : Hid (w.heap.size ≤ q) := Lib.hid (by rw [← hq]; exact BB.out.size)
    replace BB := Lib.hid (BB.out.alloc BB.out.size (.map #[] 0))
    generalize w1.alloc (.map #[] 0) = W1 at *
    rw [hq]
    clear hq
    go_wp2_with fail
    go_loopw [33] (fun iv wr => ∃ k : Nat, k ≤ n ∧ iv = .int .i64 k ∧ MapS wr q k (locs (A.take k)) ∧ Below w.heap.size w wr) (fun iv _ => n - (intOf iv).toNat)
    case atStart => exact ⟨0, by omega, rfl, M0.out, BB.out⟩
    case round =>
      obtain ⟨k, hk, rfl, hm, hb⟩ := hrel
      have MS := Lib.hid hm
      replace BB := Lib.hid hb
      clear hb hm M0
      by_cases hlt : k < n
      · obtain ⟨b, off, rfl, hbl, hln, hc⟩ := HV.out.addr hlt
        obtain ⟨c0, c1, c2, c3, c4, c5⟩ := en_cells hc (by rw [hln]; exact hlt)
        rw [← BB.out.cell (p := ⟨b, _, none⟩) hbl] at c0 c1 c2 c3 c4 c5
        have LT := Lib.hid (locs_take A (k := k) (by rw [HN.out]; exact hlt))
        have hx6 := (OA.out _ (mem_at (L := A) (k := k) (by rw [HN.out]; exact hlt))).1
        clear hc hln
        obtain ⟨x, hx⟩ : ∃ y, A[k]! = y := ⟨_, rfl⟩
        rw [hx] at c0 c1 c2 c3 c4 c5 LT hx6
        clear hx
        obtain ⟨x0, ⟨x1, x2, x3⟩, x4, x5⟩ := x
        simp only at c0 c1 c2 c3 c4 c5 LT hx6
        go_upto_region 7 with fail
        have E := Lib.hid (Box.new wr #[.int .i64 x0, .int .i64 x1, .int .u32 x2, .int .u32 x3, .int .i64 x4, .bool x5] 50 rfl)
        replace MS := Lib.hid (MS.out.below (below1 wr (.cells #[.int .i64 x0, .int .i64 x1, .int .u32 x2, .int .u32 x3, .int .i64 x4, .bool x5] 50)))
        replace BB := Lib.hid (BB.out.alloc BB.out.size (.cells #[.int .i64 x0, .int .i64 x1, .int .u32 x2, .int .u32 x3, .int .i64 x4, .bool x5] 50))
        generalize wr.alloc (.cells #[.int .i64 x0, .int .i64 x1, .int .u32 x2, .int .u32 x3, .int .i64 x4, .bool x5] 50) = W2 at *
        generalize wr.heap.size = p at *
        have z0 := E.out.cell 0
        simp at z0
        have hsz := BB.out.size
        go_wp2_with (first | (at_mapUpdate; refine wpList_mark _ rfl _ _ _ rfl q k _ rfl MS.out (by omega) x0 rfl rfl hx6 ?_; intro w3 m1 g1; have M1 := Lib.hid m1; have B1 := Lib.hid (below_mark BB.out hsz HQ.out g1); clear m1 g1) | fail)
        go_roundw
        case rel => exact ⟨k + 1, by omega, by go_num, by rw [LT.out]; exact M1.out, B1.out⟩
        case measure => simp [intOf]; omega
      · obtain rfl : k = n := by omega
        rw [List.take_of_length_le (by rw [HN.out]; exact Nat.le_refl _)] at MS
        go_wp2_with fail
        obtain ⟨wo, rfl⟩ : ∃ z, z = wr := ⟨_, rfl⟩
        go_loopw [43] (fun iv wr => ∃ j : Nat, j ≤ n2 ∧ iv = .int .i64 j ∧ (∀ i, i < j → inL (locs A) (B[i]!).1 = false) ∧ Below wo.heap.size wo wr) (fun iv _ => n2 - (intOf iv).toNat)
        case atStart => exact ⟨0, by omega, rfl, fun i hi => by omega, Below.refl _ _⟩
        case round =>
          obtain ⟨j, hj, rfl, hno, hb⟩ := hrel
          have NO := Lib.hid hno
          have BO := Lib.hid hb
          clear hb hno
          by_cases hlt2 : j < n2
          · obtain ⟨b, off, rfl, hbl, hln, hc⟩ := HU.out.addr hlt2
            obtain ⟨c0, c1, c2, c3, c4, c5⟩ := en_cells hc (by rw [hln]; exact hlt2)
            have BA := Lib.hid (BB.out.trans (BO.out.mono BB.out.size))
            rw [← BA.out.cell (p := ⟨b, _, none⟩) hbl] at c0 c1 c2 c3 c4 c5
            have hx6 := (OB.out _ (mem_at (L := B) (k := j) (by rw [HN2.out]; exact hlt2))).1
            clear hc hln
            obtain ⟨x, hx⟩ : ∃ y, B[j]! = y := ⟨_, rfl⟩
            rw [hx] at c0 c1 c2 c3 c4 c5 hx6
            have HX := Lib.hid hx
            clear hx
            obtain ⟨x0, ⟨x1, x2, x3⟩, x4, x5⟩ := x
            simp only at c0 c1 c2 c3 c4 c5 hx6
            go_upto_region 12 with fail
            have E := Lib.hid (Box.new wr #[.int .i64 x0, .int .i64 x1, .int .u32 x2, .int .u32 x3, .int .i64 x4, .bool x5] 50 rfl)
            have MW := Lib.hid ((MS.out.below BO.out).below (below1 wr (.cells #[.int .i64 x0, .int .i64 x1, .int .u32 x2, .int .u32 x3, .int .i64 x4, .bool x5] 50)))
            replace BO := Lib.hid (BO.out.alloc BO.out.size (.cells #[.int .i64 x0, .int .i64 x1, .int .u32 x2, .int .u32 x3, .int .i64 x4, .bool x5] 50))
            generalize wr.alloc (.cells #[.int .i64 x0, .int .i64 x1, .int .u32 x2, .int .u32 x3, .int .i64 x4, .bool x5] 50) = W2 at *
            generalize wr.heap.size = p at *
            have z0 := E.out.cell 0
            simp at z0
            have lk := MW.out.look x0 hx6
            obtain ⟨r, hr⟩ : ∃ r, inL (locs A) x0 = r := ⟨_, rfl⟩
            rw [hr] at lk
            have HR := Lib.hid hr
            clear hr
            cases r with
            | true =>
              replace BB := Lib.hid (BB.out.trans (BO.out.mono BB.out.size))
              go_wp2_with fail
              refine (awake_any _).mono ?_
              rintro e w9 ⟨rfl, hb⟩
              replace BB := Lib.hid (BB.out.trans (hb.mono BB.out.size))
              clear hb
              go_wp2_with fail
              go_ret
              exact ⟨rfl, BB.out⟩
            | false =>
              go_wp2_with fail
              go_roundw
              case rel =>
                refine ⟨j + 1, by omega, by go_num, fun i hi => ?_, BO.out⟩
                by_cases e : i = j
                · subst e; rw [HX.out]; exact HR.out
                · exact NO.out i (by omega)
              case measure => simp [intOf]; omega
          · obtain rfl : j = n2 := by omega
            have AP : Hid (Apart A B) := Lib.hid (by
              intro x hx y hy e
              obtain ⟨i, hi, rfl⟩ := at_mem hy
              have := NO.out i (by rw [HN2.out] at hi; exact hi)
              have h2 : inL (locs A) (B[i]!).1 = true := (inL_iff _ _).2 (by rw [← e]; exact List.mem_map.2 ⟨x, hx, rfl⟩)
              rw [h2] at this
              cases this)
            replace BB := Lib.hid (BB.out.trans (BO.out.mono BB.out.size))
            clear NO MS BO OA OB
            go_wp2_with fail
            refine (new_any _ M wr (HM.out.below BB.out) (by rw [HMN.out]; omega)).mono ?_
            rintro e w2 ⟨u, rfl, hu, hb⟩
            obtain ⟨ua, uc, rfl, _⟩ := hu.form
            rw [bare_len, HMN.out] at hu ⊢
            replace BB := Lib.hid (BB.out.trans (hb.mono BB.out.size))
            have U := Lib.hid hu
            have UL := Lib.hid (bare_len M)
            rw [HMN.out] at UL
            obtain ⟨X, hX⟩ : ∃ X, bare M = X := ⟨_, rfl⟩
            rw [hX] at U UL
            clear hu hb hX
            go_upto_region 16 with fail
            have Z := Lib.hid (Box.new w2 #[.slice ua mn uc] 27 rfl)
            replace U := Lib.hid (U.out.below (below1 w2 (.cells #[.slice ua mn uc] 27)))
            replace BB := Lib.hid (BB.out.alloc BB.out.size (.cells #[.slice ua mn uc] 27))
            generalize w2.alloc (.cells #[.slice ua mn uc] 27) = W3 at *
            generalize w2.heap.size = z at *
            have VA := Lib.hid (HV.out.below BB.out)
            have VB := Lib.hid (HU.out.below BB.out)
            have EA := Lib.hid (swp_apart X A B AP.out)
            have L1 := Lib.hid (swp_len X A)
            have L2 := Lib.hid (swp_len X B)
            have L3 := Lib.hid (swp_len (swp X A).1 B)
            have L4 := Lib.hid (swp_len (swp X B).1 A)
            rw [UL.out] at L1 L2
            rw [L1.out] at L3
            rw [L2.out] at L4
            have C1 := Lib.hid (fun W vv (h1 : WS W vv X) (h2 : ES W (.slice va k vc) A) => swap_any vv X _ A W h1 h2 (by rw [HN.out]; omega) (by rw [UL.out]; omega))
            have C2 := Lib.hid (fun W vv (h1 : WS W vv (swp X A).1) (h2 : ES W (.slice ba j bc) B) => swap_any vv (swp X A).1 _ B W h1 h2 (by rw [HN2.out]; omega) (by rw [L1.out]; omega))
            have C3 := Lib.hid (fun W vv (h1 : WS W vv X) (h2 : ES W (.slice ba j bc) B) => swap_any vv X _ B W h1 h2 (by rw [HN2.out]; omega) (by rw [UL.out]; omega))
            have C4 := Lib.hid (fun W vv (h1 : WS W vv (swp X B).1) (h2 : ES W (.slice va k vc) A) => swap_any vv (swp X B).1 _ A W h1 h2 (by rw [HN.out]; omega) (by rw [L2.out]; omega))
            obtain ⟨RA, hRA⟩ : ∃ R, swp X A = R := ⟨_, rfl⟩
            obtain ⟨RB, hRB⟩ : ∃ R, swp X B = R := ⟨_, rfl⟩
            rw [hRA] at EA L1 L3 C1 C2
            rw [hRB] at EA L2 L4 C3 C4
            obtain ⟨RA, oA, cA⟩ := RA
            obtain ⟨RB, oB, cB⟩ := RB
            simp only at EA L1 L2 L3 L4 C1 C2 C3 C4
            obtain ⟨RAB, hRAB⟩ : ∃ R, swp RA B = R := ⟨_, rfl⟩
            obtain ⟨RBA, hRBA⟩ : ∃ R, swp RB A = R := ⟨_, rfl⟩
            rw [hRAB] at EA L3 C2
            rw [hRBA] at EA L4 C4
            obtain ⟨RAB, oAB, cAB⟩ := RAB
            obtain ⟨RBA, oBA, cBA⟩ := RBA
            simp only at EA L3 L4 C2 C4
            obtain ⟨e1, e2, e3⟩ := EA.out
            injection e2 with e2 e4
            injection e3 with e3 e5
            subst e1 e2 e3 e4 e5
            clear hRA hRB hRAB hRBA EA AP
            have z0 := Z.out.cell 0
            simp at z0
            go_wp2_with fail
            refine (C1.out W3 _ U.out VA.out).mono ?_
            rintro e w4 ⟨v4, rfl, hv4, hb⟩
            obtain ⟨va4, vc4, rfl, _⟩ := hv4.form
            rw [L1.out] at hv4 ⊢
            have V4 := Lib.hid hv4
            replace U := Lib.hid (U.out.below hb)
            replace VA := Lib.hid (VA.out.below hb)
            replace VB := Lib.hid (VB.out.below hb)
            replace Z := Lib.hid (Z.out.below hb)
            replace BB := Lib.hid (BB.out.trans (hb.mono BB.out.size))
            clear hv4 hb z0 C1
            go_upto_region 17 with fail
            have HZP : Hid (w.heap.size ≤ w4.heap.size) := Lib.hid BB.out.size
            have HZ4 : Hid (z ≠ w4.heap.size) := Lib.hid (Nat.ne_of_lt Z.out.lt)
            have PP := Lib.hid (Box.new w4 #[.slice va4 mn vc4] 27 rfl)
            have RI := Lib.hid (below1 w4 (.cells #[.slice va4 mn vc4] 27))
            replace V4 := Lib.hid (V4.out.below RI.out)
            replace U := Lib.hid (U.out.below RI.out)
            replace VA := Lib.hid (VA.out.below RI.out)
            replace VB := Lib.hid (VB.out.below RI.out)
            replace Z := Lib.hid (Z.out.below RI.out)
            replace BB := Lib.hid (BB.out.trans (RI.out.mono BB.out.size))
            clear RI
            generalize w4.alloc (.cells #[.slice va4 mn vc4] 27) = W5 at *
            generalize w4.heap.size = p at *
            clear VA
            have p0 := PP.out.cell 0
            simp at p0
            go_wp2_with fail
            refine (C2.out W5 _ V4.out VB.out).mono ?_
            rintro e w6 ⟨v6, rfl, hv6, hb⟩
            obtain ⟨va6, vc6, rfl, _⟩ := hv6.form
            rw [L3.out] at hv6 ⊢
            have V6 := Lib.hid hv6
            replace U := Lib.hid (U.out.below hb)
            replace Z := Lib.hid (Z.out.below hb)
            replace PP := Lib.hid (PP.out.below hb)
            replace BB := Lib.hid (BB.out.trans (hb.mono BB.out.size))
            clear hv6 hb p0 C2 V4 VB
            have p0 := PP.out.cell 0
            have pf := PP.out.free 0
            simp at p0
            go_upto_region 18 with fail
            replace V6 := Lib.hid (V6.out.other3 PP.out (.slice va6 mn vc6))
            replace U := Lib.hid (U.out.other3 PP.out (.slice va6 mn vc6))
            replace Z := Lib.hid (Z.out.other HZ4.out 0 (.slice va6 mn vc6))
            replace BB := Lib.hid (BB.out.setCell (p := ⟨p, 0, none⟩) HZP.out (.slice va6 mn vc6))
            replace PP : Hid (Box (w6.setCell ⟨p, 0, none⟩ (.slice va6 mn vc6)) p #[.slice va6 mn vc6] 27) := Lib.hid (PP.out.set 0 (.slice va6 mn vc6))
            clear p0 pf
            generalize w6.setCell ⟨p, 0, none⟩ (.slice va6 mn vc6) = W7 at *
            have VB := Lib.hid (HU.out.below BB.out)
            have z0 := Z.out.cell 0
            simp at z0
            go_wp2_with fail
            refine (C3.out W7 _ U.out VB.out).mono ?_
            rintro e w8 ⟨v8, rfl, hv8, hb⟩
            obtain ⟨va8, vc8, rfl, _⟩ := hv8.form
            rw [L2.out] at hv8 ⊢
            have V8 := Lib.hid hv8
            replace V6 := Lib.hid (V6.out.below hb)
            replace PP := Lib.hid (PP.out.below hb)
            replace BB := Lib.hid (BB.out.trans (hb.mono BB.out.size))
            clear hv8 hb z0 C3 U VB Z
            go_upto_region 19 with fail
            have HQ8 : Hid (w.heap.size ≤ w8.heap.size) := Lib.hid BB.out.size
            have HP8 : Hid (p ≠ w8.heap.size) := Lib.hid (Nat.ne_of_lt PP.out.lt)
            have QQ := Lib.hid (Box.new w8 #[.slice va8 mn vc8] 27 rfl)
            have RI := Lib.hid (below1 w8 (.cells #[.slice va8 mn vc8] 27))
            replace V6 := Lib.hid (V6.out.below RI.out)
            replace V8 := Lib.hid (V8.out.below RI.out)
            replace PP := Lib.hid (PP.out.below RI.out)
            replace BB := Lib.hid (BB.out.trans (RI.out.mono BB.out.size))
            clear RI
            generalize w8.alloc (.cells #[.slice va8 mn vc8] 27) = W9 at *
            generalize w8.heap.size = r at *
            have VA := Lib.hid (HV.out.below BB.out)
            have q0 := QQ.out.cell 0
            simp at q0
            go_wp2_with fail
            refine (C4.out W9 _ V8.out VA.out).mono ?_
            rintro e w10 ⟨v10, rfl, hv10, hb⟩
            obtain ⟨va10, vc10, rfl, _⟩ := hv10.form
            rw [L3.out] at hv10 ⊢
            have V10 := Lib.hid hv10
            replace V6 := Lib.hid (V6.out.below hb)
            replace PP := Lib.hid (PP.out.below hb)
            replace QQ := Lib.hid (QQ.out.below hb)
            replace BB := Lib.hid (BB.out.trans (hb.mono BB.out.size))
            clear hv10 hb q0 C4 V8 VA
            have q0 := QQ.out.cell 0
            have qf := QQ.out.free 0
            simp at q0
            go_upto_region 20 with fail
            replace V6 := Lib.hid (V6.out.other3 QQ.out (.slice va10 mn vc10))
            replace V10 := Lib.hid (V10.out.other3 QQ.out (.slice va10 mn vc10))
            replace PP := Lib.hid (PP.out.other HP8.out 0 (.slice va10 mn vc10))
            replace BB := Lib.hid (BB.out.setCell (p := ⟨r, 0, none⟩) HQ8.out (.slice va10 mn vc10))
            replace QQ : Hid (Box (w10.setCell ⟨r, 0, none⟩ (.slice va10 mn vc10)) r #[.slice va10 mn vc10] 27) := Lib.hid (QQ.out.set 0 (.slice va10 mn vc10))
            clear q0 qf
            generalize w10.setCell ⟨r, 0, none⟩ (.slice va10 mn vc10) = W11 at *
            have hrl : RAB.length ≤ 1000 := by rw [L3.out]; omega
            have KS : Hid (∀ W, Below W11.heap.size W11 W → W.cell? ⟨p, 0, none⟩ = some (.slice va6 mn vc6) ∧ W.cell? ⟨r, 0, none⟩ = some (.slice va10 mn vc10)) := Lib.hid (fun W h => ⟨(PP.out.below h).cell 0, (QQ.out.below h).cell 0⟩)
            have WN := Lib.hid (fun W (h : Below W11.heap.size W11 W) => words_any _ RAB W (V10.out.below h) hrl)
            have P := Lib.hid ((Below.refl W11.heap.size W11).drew)
            have q1 : (oBA == oBA) = true := by simp
            have q2 : (oAB == oAB) = true := by simp
            have q3 : (cBA == cBA) = true := by simp
            have q4 : (cAB == cAB) = true := by simp
            go_region_held3 (fun wz => wz.cell? ⟨p, 0, none⟩ = some (.slice va6 mn vc6) ∧ wz.cell? ⟨r, 0, none⟩ = some (.slice va10 mn vc10)) (first | exact KS.out _ P.out | exact KS.out _ (Below.refl _ _))
              (first
                | (go_at_call 9; (with_reducible refine (awake_any _).mono ?_); rintro e w9 ⟨rfl, hb9⟩; have P2 := Lib.hid (P.out.trans (hb9.mono P.out.size)); clear hb9 P; have P := P2; clear P2)
                | (go_at_call 21; (with_reducible refine (WN.out _ P.out).mono ?_); rintro e w9 ⟨u9, rfl, hr9, hb9⟩; obtain ⟨ua9, uc9, rfl, _⟩ := hr9.form; have S9 := Lib.hid hr9.sk; clear hr9; have P2 := Lib.hid (P.out.trans (hb9.mono P.out.size)); clear hb9 P; have P := P2; clear P2)
                | (go_at_call 18; (with_reducible refine (is_any _ RAB _ RAB _ (V6.out.below P.out) S9.out hrl).mono ?_); rintro e w10 ⟨rfl, hb9⟩; rw [decide_eq_true (Eq.refl RAB)]; have P2 := Lib.hid (P.out.trans (hb9.mono P.out.size)); clear hb9 P; have P := P2; clear P2; clear S9))
            go_wp2_with fail
            go_ret
            exact ⟨rfl, BB.out.trans (P.out.mono BB.out.size)⟩
end Go.Proofs.Ytmophafgmimhcaa
