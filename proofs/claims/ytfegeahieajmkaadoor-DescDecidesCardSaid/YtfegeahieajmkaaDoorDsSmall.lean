/- simulcastlaw19.great and same, the reference's Same. -/
import Derived.Test.YtfegeahieajmkaaDoorDsEqE
import Derived.Test.YtfegeahieajmkaaDoorDsEqual
import Derived.Deep.DeepCutAuto
namespace Go.Proofs.YtfegeahieajmkaaDoor
open Go.ChangeShapes Go.WideShapes Go.ChangeAt Go.RowKit Go.Maps
open Lay (startL checkI placeI mayI sizeI Ok starts checkI_ok)
set_option maxRecDepth 100000 in
set_option maxHeartbeats 1600000 in
theorem great_any (v : Value) (L : List En) (w : World) (hv : ES w v L) : Calls Tryd.prog 10 #[v] w fun e w' => e = .returned (.bool (decide (40 < L.length))) ∧ w' = w := by
  obtain ⟨a1, cp, rfl, hcap⟩ := hv.form
  obtain ⟨n, hn⟩ : ∃ n, L.length = n := ⟨_, rfl⟩
  rw [hn]
  clear hv hn hcap
  by_cases h : 40 < n
  · have h' : (40 : Int) < (n : Int) := by omega
    rw [decide_eq_true h]
    go_enter Tryd.func10, Tryd.ntmps10
    go_wp2_with fail
    go_ret
    exact ⟨rfl, rfl⟩
  · have h' : ¬ (40 : Int) < (n : Int) := by omega
    rw [decide_eq_false h]
    go_enter Tryd.func10, Tryd.ntmps10
    go_wp2_with fail
    go_ret
    exact ⟨rfl, rfl⟩
set_option maxRecDepth 100000 in
set_option maxHeartbeats 3200000 in
theorem same_any (v u : Value) (L M : List Wd) (w : World) (hv : WS w v L) (hu : WS w u M) (hl : L.length ≤ 5000) : Calls Tryd.prog 18 #[v, u] w fun e w' => e = .returned (.bool (decide (L = M))) ∧ Below w.heap.size w w' := by
  have HV := Lib.hid hv
  have HU := Lib.hid hu
  obtain ⟨a1, cp, rfl, hcap⟩ := hv.form
  obtain ⟨a2, cu, rfl, hcau⟩ := hu.form
  clear hv hu
  obtain ⟨n, hn⟩ : ∃ n, L.length = n := ⟨_, rfl⟩
  obtain ⟨m, hm⟩ : ∃ n, M.length = n := ⟨_, rfl⟩
  rw [hn] at HV hl hcap ⊢
  rw [hm] at HU hcau ⊢
  have HN := Lib.hid hn
  have HM := Lib.hid hm
  clear hn hm
  obtain ⟨r, hr⟩ : ∃ r, decide (L = M) = r := ⟨_, rfl⟩
  rw [hr]
  have HR := Lib.hid hr
  clear hr
  by_cases hne : n = m
  case neg =>
    have hnn : ((n : Int) != m) = true := by rw [bne_iff_ne]; omega
    have HX := Lib.hid hne
    clear hne
    go_enter Tryd.func18, Tryd.ntmps18
    go_wp2_with fail
    go_ret
    refine ⟨?_, Below.refl _ _⟩
    have e : r = false := HR.out.symm.trans (decide_eq_false (by rintro rfl; exact HX.out (HN.out.symm.trans HM.out)))
    rw [e]; rfl
  subst hne
  have hnn : ((n : Int) != n) = false := by simp
  have qN := neqW
  have gP := guardW
  go_enter Tryd.func18, Tryd.ntmps18
  go_wp2_with fail
  go_loopw [5] (fun iv wr => ∃ k : Nat, k ≤ n ∧ iv = .int .i64 k ∧ (∀ i, i < k → L[i]! = M[i]!) ∧ Below w.heap.size w wr) (fun iv _ => n - (intOf iv).toNat)
  case atStart => exact ⟨0, by omega, rfl, fun i hi => by omega, Below.refl _ _⟩
  case round =>
    obtain ⟨k, hk, rfl, hs, hb⟩ := hrel
    have BB := Lib.hid hb
    have HS := Lib.hid hs
    clear hb hs
    by_cases hlt : k < n
    · obtain ⟨b, off, rfl, hbl, hln, hc⟩ := HV.out.addr hlt
      obtain ⟨c0, c1, c2⟩ := wd_cells hc (by rw [hln]; exact hlt)
      obtain ⟨b2, off2, rfl, hbl2, hln2, hc2⟩ := HU.out.addr hlt
      obtain ⟨d0, d1, d2⟩ := wd_cells hc2 (by rw [hln2]; exact hlt)
      rw [← BB.out.cell (p := ⟨b, _, none⟩) hbl] at c0 c1 c2
      rw [← BB.out.cell (p := ⟨b2, _, none⟩) hbl2] at d0 d1 d2
      clear hc hc2 hln hln2
      have HE := Lib.hid (eqW_dec (L[k]!) (M[k]!))
      obtain ⟨y, hy⟩ : ∃ y, L[k]! = y := ⟨_, rfl⟩
      obtain ⟨z, hz⟩ : ∃ y, M[k]! = y := ⟨_, rfl⟩
      rw [hy] at c0 c1 c2 HE
      rw [hz] at d0 d1 d2 HE
      have HY := Lib.hid hy
      have HZ := Lib.hid hz
      clear hy hz
      obtain ⟨y0, y1, y2⟩ := y
      obtain ⟨z0, z1, z2⟩ := z
      simp only at c0 c1 c2 d0 d1 d2
      cases he : eqW (y0, y1, y2) (z0, z1, z2) with
      | true =>
        rw [he] at HE
        go_wp2_with fail
        go_quiet (fail)
        go_wp2
        go_roundw
        case rel =>
          refine ⟨k + 1, by omega, by go_num, fun i hi => ?_, below_drewN BB.out _⟩
          by_cases e : i = k
          · subst e; rw [HY.out, HZ.out]; exact of_decide_eq_true HE.out.symm
          · exact HS.out i (by omega)
        case measure => simp [intOf]; omega
      | false =>
        rw [he] at HE
        go_wp2_with fail
        go_quiet (fail)
        go_wp2
        go_ret
        refine ⟨?_, below_drewN BB.out _⟩
        have e : r = false := HR.out.symm.trans (decide_eq_false (by rintro rfl; exact absurd (HY.out.symm.trans HZ.out) (of_decide_eq_false HE.out.symm)))
        rw [e]; rfl
    · obtain rfl : k = n := by omega
      go_wp2
      go_ret
      refine ⟨?_, BB.out⟩
      have e : r = true := HR.out.symm.trans (decide_eq_true (by
        apply List.ext_getElem (by rw [HN.out, HM.out])
        intro i h1 h2
        have := HS.out i (by rw [HN.out] at h1; exact h1)
        rw [getElem!_pos L i h1, getElem!_pos M i h2] at this
        exact this))
      rw [e]; rfl
set_option maxRecDepth 100000 in
set_option maxHeartbeats 3200000 in
theorem rsame_any (v u : Value) (L M : List En) (w : World) (hv : ES w v L) (hu : ES w u M) (hl : L.length ≤ 5000) : Calls Tryd.prog 23 #[v, u] w fun e w' => e = .returned (.bool (decide (L = M))) ∧ Below w.heap.size w w' := by
  have HV := Lib.hid hv
  have HU := Lib.hid hu
  obtain ⟨a1, cp, rfl, hcap⟩ := hv.form
  obtain ⟨a2, cu, rfl, hcau⟩ := hu.form
  clear hv hu
  obtain ⟨n, hn⟩ : ∃ n, L.length = n := ⟨_, rfl⟩
  obtain ⟨m, hm⟩ : ∃ n, M.length = n := ⟨_, rfl⟩
  rw [hn] at HV hl hcap ⊢
  rw [hm] at HU hcau ⊢
  have HN := Lib.hid hn
  have HM := Lib.hid hm
  clear hn hm
  obtain ⟨r, hr⟩ : ∃ r, decide (L = M) = r := ⟨_, rfl⟩
  rw [hr]
  have HR := Lib.hid hr
  clear hr
  by_cases hne : n = m
  case neg =>
    have hnn : ((n : Int) != m) = true := by rw [bne_iff_ne]; omega
    have HX := Lib.hid hne
    clear hne
    go_enter Tryd.func23, Tryd.ntmps23
    go_wp2_with fail
    go_ret
    refine ⟨?_, Below.refl _ _⟩
    have e : r = false := HR.out.symm.trans (decide_eq_false (by rintro rfl; exact HX.out (HN.out.symm.trans HM.out)))
    rw [e]; rfl
  subst hne
  have hnn : ((n : Int) != n) = false := by simp
  have qN := neqE
  have gP := guardE
  go_enter Tryd.func23, Tryd.ntmps23
  go_wp2_with fail
  go_loopw [5] (fun iv wr => ∃ k : Nat, k ≤ n ∧ iv = .int .i64 k ∧ (∀ i, i < k → L[i]! = M[i]!) ∧ Below w.heap.size w wr) (fun iv _ => n - (intOf iv).toNat)
  case atStart => exact ⟨0, by omega, rfl, fun i hi => by omega, Below.refl _ _⟩
  case round =>
    obtain ⟨k, hk, rfl, hs, hb⟩ := hrel
    have BB := Lib.hid hb
    have HS := Lib.hid hs
    clear hb hs
    by_cases hlt : k < n
    · obtain ⟨b, off, rfl, hbl, hln, hc⟩ := HV.out.addr hlt
      obtain ⟨c0, c1, c2, c3, c4, c5⟩ := en_cells hc (by rw [hln]; exact hlt)
      obtain ⟨b2, off2, rfl, hbl2, hln2, hc2⟩ := HU.out.addr hlt
      obtain ⟨d0, d1, d2, d3, d4, d5⟩ := en_cells hc2 (by rw [hln2]; exact hlt)
      rw [← BB.out.cell (p := ⟨b, _, none⟩) hbl] at c0 c1 c2 c3 c4 c5
      rw [← BB.out.cell (p := ⟨b2, _, none⟩) hbl2] at d0 d1 d2 d3 d4 d5
      clear hc hc2 hln hln2
      have HE := Lib.hid (eqE_dec (L[k]!) (M[k]!))
      obtain ⟨y, hy⟩ : ∃ y, L[k]! = y := ⟨_, rfl⟩
      obtain ⟨z, hz⟩ : ∃ y, M[k]! = y := ⟨_, rfl⟩
      rw [hy] at c0 c1 c2 c3 c4 c5 HE
      rw [hz] at d0 d1 d2 d3 d4 d5 HE
      have HY := Lib.hid hy
      have HZ := Lib.hid hz
      clear hy hz
      obtain ⟨y0, ⟨y1, y2, y3⟩, y4, y5⟩ := y
      obtain ⟨z0, ⟨z1, z2, z3⟩, z4, z5⟩ := z
      simp only at c0 c1 c2 c3 c4 c5 d0 d1 d2 d3 d4 d5
      cases he : eqE (y0, (y1, y2, y3), y4, y5) (z0, (z1, z2, z3), z4, z5) with
      | true =>
        rw [he] at HE
        go_wp2_with fail
        go_quiet (fail)
        go_wp2
        go_roundw
        case rel =>
          refine ⟨k + 1, by omega, by go_num, fun i hi => ?_, below_drewN BB.out _⟩
          by_cases e : i = k
          · subst e; rw [HY.out, HZ.out]; exact of_decide_eq_true HE.out.symm
          · exact HS.out i (by omega)
        case measure => simp [intOf]; omega
      | false =>
        rw [he] at HE
        go_wp2_with fail
        go_quiet (fail)
        go_wp2
        go_ret
        refine ⟨?_, below_drewN BB.out _⟩
        have e : r = false := HR.out.symm.trans (decide_eq_false (by rintro rfl; exact absurd (HY.out.symm.trans HZ.out) (of_decide_eq_false HE.out.symm)))
        rw [e]; rfl
    · obtain rfl : k = n := by omega
      go_wp2
      go_ret
      refine ⟨?_, BB.out⟩
      have e : r = true := HR.out.symm.trans (decide_eq_true (by
        apply List.ext_getElem (by rw [HN.out, HM.out])
        intro i h1 h2
        have := HS.out i (by rw [HN.out] at h1; exact h1)
        rw [getElem!_pos L i h1, getElem!_pos M i h2] at this
        exact this))
      rw [e]; rfl
end Go.Proofs.YtfegeahieajmkaaDoor
