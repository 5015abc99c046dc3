/- Is: a model consists of exactly these words; Few; the reference's Swap. -/
import Derived.Test.YtmophafgmimhcaaMdRNew
namespace Go.Proofs.Ytmophafgmimhcaa
open Go.ChangeShapes Go.WideShapes Go.ChangeAt Go.RowKit Go.Maps
set_option maxRecDepth 100000 in
set_option maxHeartbeats 3200000 in
theorem is_any (mv : Value) (M : List Wd) (v : Value) (L : List Wd) (w : World) (hm : WS w mv M) (hv : WS w v L) (hl : M.length ≤ 1000) : Calls Try.prog 18 #[.agg #[mv], v] w fun e w' => e = .returned (.bool (decide (M = L))) ∧ Below w.heap.size w w' := by
  have HM := Lib.hid hm
  have HV := Lib.hid hv
  obtain ⟨a1, cp, rfl, hcap⟩ := hv.form
  obtain ⟨ma, mc, rfl, _⟩ := hm.form
  clear hm hv
  obtain ⟨n, hn⟩ : ∃ n, L.length = n := ⟨_, rfl⟩
  obtain ⟨mn, hmn⟩ : ∃ n, M.length = n := ⟨_, rfl⟩
  rw [hn] at HV hcap ⊢
  rw [hmn] at HM hl ⊢
  have HN := Lib.hid hn
  have HMN := Lib.hid hmn
  clear hn hmn
  obtain ⟨r, hr⟩ : ∃ r, decide (M = L) = r := ⟨_, rfl⟩
  rw [hr]
  have HR := Lib.hid hr
  clear hr
  have WD := Lib.hid (fun W (h : Below w.heap.size w W) => words_any _ M W (HM.out.below h) (by rw [HMN.out]; exact hl))
  have LE := Lib.hid (fun W (h : Below w.heap.size w W) => len_any _ M W (HM.out.below h))
  rw [HMN.out] at LE
  go_enter Try.func18, Try.ntmps18
  go_upto_region 1 with fail
  obtain ⟨W, hW⟩ : ∃ W, w.alloc (.cells #[.slice ma mn mc] 27) = W := ⟨_, rfl⟩
  obtain ⟨q, hq⟩ : ∃ q, w.heap.size = q := ⟨_, rfl⟩
  have B : Hid (Box W q #[.slice ma mn mc] 27) := Lib.hid (by rw [← hW]; exact Box.new w _ 27 hq.symm)
  have BB : Hid (Below w.heap.size w W) := Lib.hid (by rw [← hW]; exact below1 w _)
  rw [hW, hq]
  clear hW hq
  have z0 := B.out.cell 0
  simp at z0
  go_wp2_with fail
  refine (WD.out W BB.out).mono ?_
  rintro e w1 ⟨u, rfl, hr, hb⟩
  obtain ⟨ua, uc, rfl, _⟩ := hr.form
  rw [HMN.out] at hr ⊢
  have RR := Lib.hid hr.sk
  replace B := Lib.hid (B.out.below hb)
  replace BB := Lib.hid (BB.out.trans (hb.mono BB.out.size))
  clear hr hb WD z0
  have z0 := B.out.cell 0
  simp at z0
  by_cases hne : mn = n
  · subst hne
    have hnn : ((mn : Int) != mn) = false := by simp
    go_wp2_with fail
    refine (LE.out w1 BB.out).mono ?_
    rintro e w2 ⟨rfl, hb⟩
    replace RR := Lib.hid (RR.out.below hb)
    replace B := Lib.hid (B.out.below hb)
    replace BB := Lib.hid (BB.out.trans (hb.mono BB.out.size))
    clear hb LE z0
    have HV2 := Lib.hid (HV.out.below BB.out)
    have qN := neqW
    have gP := guardW
    obtain ⟨w3, rfl⟩ : ∃ z, z = w2 := ⟨_, rfl⟩
    go_wp2_with fail
    go_loopw [25] (fun iv wr => ∃ k : Nat, k ≤ mn ∧ iv = .int .i64 k ∧ (∀ i, i < k → M[i]! = L[i]!) ∧ Box wr q #[.slice ma mn mc] 27 ∧ Below w.heap.size w wr ∧ Below w3.heap.size w3 wr) (fun iv _ => mn - (intOf iv).toNat)
    case atStart => exact ⟨0, by omega, rfl, fun i hi => by omega, B.out, BB.out, Below.refl _ _⟩
    case round =>
      obtain ⟨k, hk, rfl, hs, hB, hb, hb3⟩ := hrel
      replace BB := Lib.hid hb
      replace B := Lib.hid hB
      have B3 := Lib.hid hb3
      have HS := Lib.hid hs
      clear hb hs hB hb3
      by_cases hlt : k < mn
      · obtain ⟨b, off, rfl, hbl, hln, hc⟩ := RR.out.addr hlt
        obtain ⟨c0, c1, c2⟩ := wd_cells hc (by rw [hln]; exact hlt)
        obtain ⟨b2, off2, rfl, hbl2, hln2, hc2⟩ := HV2.out.addr hlt
        obtain ⟨d0, d1, d2⟩ := wd_cells hc2 (by rw [hln2]; exact hlt)
        have AT := Lib.hid (at_any _ M k wr (HM.out.below BB.out))
        have ha : atM M (k : Int) = M[k]! := by unfold atM; rw [HMN.out, if_pos (by omega), Int.toNat_natCast]
        have hh : hasM M (k : Int) = true := by unfold hasM; rw [HMN.out]; exact decide_eq_true (by omega)
        rw [ha, hh] at AT
        clear hc hc2 hln hln2 ha hh
        unfold wdV at AT
        have HE := Lib.hid (eqW_iff (M[k]!) (L[k]!))
        obtain ⟨y, hy⟩ : ∃ y, M[k]! = y := ⟨_, rfl⟩
        obtain ⟨z, hz⟩ : ∃ y, L[k]! = y := ⟨_, rfl⟩
        rw [hy] at c0 c1 c2 HE AT
        rw [hz] at d0 d1 d2 HE
        have HY := Lib.hid hy
        have HZ := Lib.hid hz
        clear hy hz
        obtain ⟨y0, y1, y2⟩ := y
        obtain ⟨z0, z1, z2⟩ := z
        simp only at c0 c1 c2 d0 d1 d2 AT
        have zb := B.out.cell 0
        simp at zb
        go_wp2_with fail
        refine AT.out.mono ?_
        rintro e w4 ⟨rfl, hb⟩
        replace B := Lib.hid (B.out.below hb)
        replace BB := Lib.hid (BB.out.trans (hb.mono BB.out.size))
        replace B3 := Lib.hid (B3.out.trans (hb.mono B3.out.size))
        clear hb zb AT
        go_upto_region 8 with fail
        obtain ⟨W5, hW⟩ : ∃ W, w4.alloc (.cells #[.int .i64 y0, .int .u32 y1, .int .u32 y2] 43) = W := ⟨_, rfl⟩
        obtain ⟨p, hq⟩ : ∃ q, w4.heap.size = q := ⟨_, rfl⟩
        have Y : Hid (Box W5 p #[.int .i64 y0, .int .u32 y1, .int .u32 y2] 43) := Lib.hid (by rw [← hW]; exact Box.new w4 _ 43 hq.symm)
        replace B : Hid (Box W5 q #[.slice ma mn mc] 27) := Lib.hid (by rw [← hW]; exact B.out.alloc _)
        replace BB : Hid (Below w.heap.size w W5) := Lib.hid (by rw [← hW]; exact BB.out.alloc BB.out.size _)
        replace B3 : Hid (Below w3.heap.size w3 W5) := Lib.hid (by rw [← hW]; exact B3.out.alloc B3.out.size _)
        rw [hW, hq]
        clear hW hq
        rw [← B3.out.cell (p := ⟨b, _, none⟩) hbl] at c0 c1 c2
        rw [← B3.out.cell (p := ⟨b2, _, none⟩) hbl2] at d0 d1 d2
        have u0 := Y.out.cell 0
        have u1 := Y.out.cell 1
        have u2 := Y.out.cell 2
        simp at u0 u1 u2
        cases he : eqW (y0, y1, y2) (z0, z1, z2) with
        | true =>
          rw [he] at HE
          go_quiet (fail)
          go_wp2
          go_roundw
          case rel =>
            refine ⟨k + 1, by omega, by go_num, fun i hi => ?_, B.out.drewN _, below_drewN BB.out _, below_drewN B3.out _⟩
            by_cases e : i = k
            · subst e; rw [HY.out, HZ.out]; exact HE.out.1 (by trivial)
            · exact HS.out i (by omega)
          case measure => simp [intOf]; omega
        | false =>
          rw [he] at HE
          go_quiet (fail)
          go_wp2
          go_ret
          refine ⟨?_, below_drewN BB.out _⟩
          have e : r = false := HR.out.symm.trans (decide_eq_false (by rintro rfl; exact absurd (HE.out.2 (HY.out.symm.trans HZ.out)) (by simp)))
          rw [e]; rfl
      · obtain rfl : k = mn := by omega
        go_wp2
        go_ret
        refine ⟨?_, BB.out⟩
        have e : r = true := HR.out.symm.trans (decide_eq_true (by
          apply List.ext_getElem (by rw [HN.out, HMN.out])
          intro i h1 h2
          have := HS.out i (by rw [HMN.out] at h1; exact h1)
          rw [getElem!_pos M i h1, getElem!_pos L i h2] at this
          exact this))
        rw [e]; rfl
  · have hnn : ((mn : Int) != n) = true := by rw [bne_iff_ne]; omega
    have HX := Lib.hid hne
    clear hne
    go_wp2_with fail
    go_ret
    refine ⟨?_, BB.out⟩
    have e : r = false := HR.out.symm.trans (decide_eq_false (by rintro rfl; exact HX.out (HMN.out.symm.trans HN.out)))
    rw [e]; rfl
end Go.Proofs.Ytmophafgmimhcaa
