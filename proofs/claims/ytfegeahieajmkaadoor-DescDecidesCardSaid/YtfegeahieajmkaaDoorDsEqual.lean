/- slices.Equal of lists of words; word.Who. -/
import Derived.Test.YtfegeahieajmkaaDoorDsEq
import Derived.Deep.DeepCutAuto
namespace Go.Proofs.YtfegeahieajmkaaDoor
open Go.ChangeShapes Go.WideShapes Go.ChangeAt Go.RowKit Go.Maps
set_option maxRecDepth 100000 in
set_option maxHeartbeats 1600000 in
theorem equalL_any (v u : Value) (L M : List Wd) (w : World) (hv : WS w v L) (hu : WS w u M) (hl : L.length ≤ 5000) : Calls Tryd.prog 48 #[v, u] w fun e w' => e = .returned (.bool (decide (L = M))) ∧ Below w.heap.size w w' := by
  have HV := Lib.hid hv
  have HU := Lib.hid hu
  obtain ⟨a1, cp, rfl, hcap⟩ := hv.form
  obtain ⟨a2, cu, rfl, hcau⟩ := hu.form
  clear hv hu
  obtain ⟨n, hn⟩ : ∃ n, L.length = n := ⟨_, rfl⟩
  obtain ⟨m, hm⟩ : ∃ n, M.length = n := ⟨_, rfl⟩
  rw [hn] at HV hl hcap ⊢
  rw [hm] at HU hcau ⊢
  have HN := Lib.hid hn
  have HM := Lib.hid hm
  clear hn hm
  obtain ⟨r, hr⟩ : ∃ r, decide (L = M) = r := ⟨_, rfl⟩
  rw [hr]
  have HR := Lib.hid hr
  clear hr
  by_cases hne : n = m
  case neg =>
    have hnn : ((n : Int) != m) = true := by rw [bne_iff_ne]; omega
    have HX := Lib.hid hne
    clear hne
    go_enter Tryd.func48, Tryd.ntmps48
    go_wp2_with fail
    go_ret
    refine ⟨?_, Below.refl _ _⟩
    have e : r = false := HR.out.symm.trans (decide_eq_false (by rintro rfl; exact HX.out (HN.out.symm.trans HM.out)))
    rw [e]; rfl
  subst hne
  have hnn : ((n : Int) != n) = false := by simp
  have qN := neqW
  have gP := guardW
  go_enter Tryd.func48, Tryd.ntmps48
  go_wp2_with fail
  go_loopw [13] (fun iv wr => ∃ k : Nat, k ≤ n ∧ iv = .int .i64 k ∧ (∀ i, i < k → L[i]! = M[i]!) ∧ Below w.heap.size w wr) (fun iv _ => n - (intOf iv).toNat)
  case atStart => exact ⟨0, by omega, rfl, fun i hi => by omega, Below.refl _ _⟩
  case round =>
    obtain ⟨k, hk, rfl, hs, hb⟩ := hrel
    have BB := Lib.hid hb
    have HS := Lib.hid hs
    clear hb hs
    by_cases hlt : k < n
    · obtain ⟨b, off, rfl, hbl, hln, hc⟩ := HV.out.addr hlt
      obtain ⟨c0, c1, c2⟩ := wd_cells hc (by rw [hln]; exact hlt)
      obtain ⟨b2, off2, rfl, hbl2, hln2, hc2⟩ := HU.out.addr hlt
      obtain ⟨d0, d1, d2⟩ := wd_cells hc2 (by rw [hln2]; exact hlt)
      rw [← BB.out.cell (p := ⟨b, _, none⟩) hbl] at c0 c1 c2
      rw [← BB.out.cell (p := ⟨b2, _, none⟩) hbl2] at d0 d1 d2
      clear hc hc2 hln hln2
      have HE := Lib.hid (eqW_iff (L[k]!) (M[k]!))
      obtain ⟨y, hy⟩ : ∃ y, L[k]! = y := ⟨_, rfl⟩
      obtain ⟨z, hz⟩ : ∃ y, M[k]! = y := ⟨_, rfl⟩
      rw [hy] at c0 c1 c2 HE
      rw [hz] at d0 d1 d2 HE
      have HY := Lib.hid hy
      have HZ := Lib.hid hz
      clear hy hz
      obtain ⟨y0, y1, y2⟩ := y
      obtain ⟨z0, z1, z2⟩ := z
      simp only at c0 c1 c2 d0 d1 d2
      cases he : eqW (y0, y1, y2) (z0, z1, z2) with
      | true =>
        rw [he] at HE
        go_wp2_with fail
        go_quiet (fail)
        go_wp2
        go_roundw
        case rel =>
          refine ⟨k + 1, by omega, by go_num, fun i hi => ?_, below_drewN BB.out _⟩
          by_cases e : i = k
          · subst e; rw [HY.out, HZ.out]; exact HE.out.1 (by trivial)
          · exact HS.out i (by omega)
        case measure => simp [intOf]; omega
      | false =>
        rw [he] at HE
        go_wp2_with fail
        go_quiet (fail)
        go_wp2
        go_ret
        refine ⟨?_, below_drewN BB.out _⟩
        have e : r = false := HR.out.symm.trans (decide_eq_false (by rintro rfl; exact absurd (HE.out.2 (HY.out.symm.trans HZ.out)) (by simp)))
        rw [e]; rfl
    · obtain rfl : k = n := by omega
      go_wp2
      go_ret
      refine ⟨?_, BB.out⟩
      have e : r = true := HR.out.symm.trans (decide_eq_true (by
        apply List.ext_getElem (by rw [HN.out, HM.out])
        intro i h1 h2
        have := HS.out i (by rw [HN.out] at h1; exact h1)
        rw [getElem!_pos L i h1, getElem!_pos M i h2] at this
        exact this))
      rw [e]; rfl
def refI (a b : Int) : Int × Int := if a < 1 ∨ 72 < a ∨ b < 1 ∨ 16777215 < b then (0, 3) else (a * 16777216 + b, 0)
set_option maxRecDepth 100000 in
set_option maxHeartbeats 1600000 in
theorem ref_any (a b : Int) (w : World) : Calls Tryd.prog 30 #[.int .i64 a, .int .i64 b] w fun e w' => e = .returned (.tuple #[.int .u32 (refI a b).1, .int .i64 (refI a b).2]) ∧ w' = w := by
  unfold refI
  by_cases h1 : a < 1
  · rw [if_pos (by omega)]
    go_enter Tryd.func30, Tryd.ntmps30
    go_wp2
    go_ret2
    exact ⟨rfl, rfl⟩
  by_cases h2 : 72 < a
  · rw [if_pos (by omega)]
    go_enter Tryd.func30, Tryd.ntmps30
    go_wp2
    go_ret2
    exact ⟨rfl, rfl⟩
  by_cases h3 : b < 1
  · rw [if_pos (by omega)]
    go_enter Tryd.func30, Tryd.ntmps30
    go_wp2
    go_ret2
    exact ⟨rfl, rfl⟩
  by_cases h4 : 16777215 < b
  · rw [if_pos (by omega)]
    go_enter Tryd.func30, Tryd.ntmps30
    go_wp2
    go_ret2
    exact ⟨rfl, rfl⟩
  · rw [if_neg (by omega)]
    obtain ⟨m, rfl⟩ : ∃ m : Nat, a = m := ⟨a.toNat, by omega⟩
    obtain ⟨n, rfl⟩ : ∃ m : Nat, b = m := ⟨b.toNat, by omega⟩
    go_enter Tryd.func30, Tryd.ntmps30
    go_wp2
    go_ret2
    exact ⟨rfl, rfl⟩
theorem mask (r : Int) (h0 : 0 ≤ r) (h1 : r < 4294967296) : bits .and .u32 r 16777215 = r % 16777216 := by
  rw [u32_and r 16777215 h0 h1 (by omega) (by omega)]
  have : (16777215 : Int).toNat = 2 ^ 24 - 1 := by decide
  rw [this, Nat.and_two_pow_sub_one_eq_mod]
  omega
set_option maxRecDepth 100000 in
set_option maxHeartbeats 1600000 in
theorem who_any (r : Int) (w : World) (h0 : 0 ≤ r) (h1 : r < 4294967296) : Calls Tryd.prog 49 #[.int .u32 r] w fun e w' => e = .returned (.tuple #[.int .i64 (whoI r).1, .int .i64 (whoI r).2]) ∧ w' = w := by
  have hm := mask r h0 h1
  have RF := Lib.hid (ref_any (r / 16777216) (r % 16777216))
  unfold whoI
  by_cases h : 1 ≤ r / 16777216 ∧ r / 16777216 ≤ 72 ∧ 1 ≤ r % 16777216
  · rw [if_pos h]
    rw [show refI (r / 16777216) (r % 16777216) = (r / 16777216 * 16777216 + r % 16777216, 0) by unfold refI; rw [if_neg (by omega)]] at RF
    clear h
    go_enter Tryd.func49, Tryd.ntmps49
    go_wp2_with fail
    refine (RF.out _).mono ?_
    rintro e w' ⟨rfl, rfl⟩
    go_wp2
    go_ret2
    exact ⟨rfl, rfl⟩
  · rw [if_neg h]
    rw [show refI (r / 16777216) (r % 16777216) = (0, 3) by unfold refI; rw [if_pos (by omega)]] at RF
    clear h
    go_enter Tryd.func49, Tryd.ntmps49
    go_wp2_with fail
    refine (RF.out _).mono ?_
    rintro e w' ⟨rfl, rfl⟩
    go_wp2
    go_ret2
    exact ⟨rfl, rfl⟩
end Go.Proofs.YtfegeahieajmkaaDoor
