/- The reference of layer model: New, Holds, Has, Swap. -/
import Derived.Test.YtmophafgmimhcaaMdSwap
import Derived.BigQuiet
import Derived.Deep.QuietTactic
namespace Go.Proofs.Ytmophafgmimhcaa
open Go.ChangeShapes Go.WideShapes Go.ChangeAt Go.RowKit Go.Maps
def rholds1 (M : List Wd) (e : En) : Bool := hasM M e.1 && (decide ((M[e.1.toNat]!).1 = e.2.1.1) && decide ((M[e.1.toNat]!).2.1 = e.2.1.2.1))
def rholds (M : List Wd) (L : List En) : Bool := L.all (rholds1 M)
theorem rholds_yes (M : List Wd) (L : List En) (h : ∀ i, i < L.length → rholds1 M L[i]! = true) : rholds M L = true := by
  unfold rholds
  rw [List.all_eq_true]
  intro x hx
  obtain ⟨k, hk, rfl⟩ := at_mem hx
  exact h k hk
theorem rholds_no (M : List Wd) (L : List En) {i : Nat} (hi : i < L.length) (h : rholds1 M L[i]! = false) : rholds M L = false := by
  unfold rholds
  rw [List.all_eq_false]
  exact ⟨_, mem_at hi, by rw [h]; decide⟩
set_option maxRecDepth 100000 in
set_option maxHeartbeats 1600000 in
theorem rhas_any (mv : Value) (M : List Wd) (v : Value) (L : List En) (w : World) (hm : WS w mv M) (hv : ES w v L) (hl : L.length ≤ 1000) : Calls Try.prog 16 #[mv, v] w fun e w' => e = .returned (.bool (hasL M L)) ∧ Below w.heap.size w w' := by
  have HV := Lib.hid hv
  obtain ⟨a1, cp, rfl, hcap⟩ := hv.form
  obtain ⟨ma, mc, rfl, _⟩ := hm.form
  clear hm hv
  obtain ⟨n, hn⟩ : ∃ n, L.length = n := ⟨_, rfl⟩
  obtain ⟨mn, hmn⟩ : ∃ n, M.length = n := ⟨_, rfl⟩
  rw [hn] at HV hl hcap ⊢
  rw [hmn] at ⊢
  have HN := Lib.hid hn
  have HMN := Lib.hid hmn
  clear hn hmn
  obtain ⟨r, hr⟩ : ∃ r, hasL M L = r := ⟨_, rfl⟩
  rw [hr]
  have HR := Lib.hid hr
  clear hr
  go_enter Try.func16, Try.ntmps16
  go_wp2_with fail
  go_loopw [5] (fun iv wr => ∃ k : Nat, k ≤ n ∧ iv = .int .i64 k ∧ (∀ i, i < k → hasM M L[i]!.1 = true) ∧ Below w.heap.size w wr) (fun iv _ => n - (intOf iv).toNat)
  case atStart => exact ⟨0, by omega, rfl, fun i hi => by omega, Below.refl _ _⟩
  case round =>
    obtain ⟨k, hk, rfl, hho, hb⟩ := hrel
    have BB := Lib.hid hb
    have HO := Lib.hid hho
    clear hb hho
    by_cases hlt : k < n
    · obtain ⟨b, off, rfl, hbl, hln, hc⟩ := HV.out.addr hlt
      obtain ⟨c0, c1, c2, c3, c4, c5⟩ := en_cells hc (by rw [hln]; exact hlt)
      rw [← BB.out.cell (p := ⟨b, _, none⟩) hbl] at c0
      have HNO := Lib.hid (fun h => hasL_no M L (i := k) (by rw [HN.out]; exact hlt) h)
      clear hc hln c1 c2 c3 c4 c5
      have HK : Hid (hasM M (L[k]!).1 = decide (0 ≤ (L[k]!).1 ∧ (L[k]!).1 < mn)) := Lib.hid (by unfold hasM; rw [HMN.out])
      obtain ⟨y, hy⟩ : ∃ y, (L[k]!).1 = y := ⟨_, rfl⟩
      rw [hy] at c0 HNO HK
      have HY := Lib.hid hy
      clear hy
      by_cases h1 : y < 0
      · rw [decide_eq_false (by omega)] at HK
        go_wp2
        go_ret
        exact ⟨by rw [← HR.out, HNO.out HK.out]; rfl, BB.out⟩
      by_cases h2 : (mn : Int) ≤ y
      · rw [decide_eq_false (by omega)] at HK
        go_wp2
        go_ret
        exact ⟨by rw [← HR.out, HNO.out HK.out]; rfl, BB.out⟩
      · rw [decide_eq_true (by omega)] at HK
        go_wp2
        go_roundw
        case rel =>
          refine ⟨k + 1, by omega, by go_num, fun i hi => ?_, BB.out⟩
          by_cases e : i = k
          · subst e; rw [HY.out]; exact HK.out
          · exact HO.out i (by omega)
        case measure => simp [intOf]; omega
    · obtain rfl : k = n := by omega
      go_wp2
      go_ret
      exact ⟨by rw [← HR.out, hasL_yes M L (fun i hi => HO.out i (by rw [HN.out] at hi; exact hi))]; rfl, BB.out⟩
set_option maxRecDepth 100000 in
set_option maxHeartbeats 3200000 in
theorem rholds_any (mv : Value) (M : List Wd) (v : Value) (L : List En) (w : World) (hm : WS w mv M) (hv : ES w v L) (hl : L.length ≤ 1000) : Calls Try.prog 14 #[mv, v] w fun e w' => e = .returned (.bool (rholds M L)) ∧ Below w.heap.size w w' := by
  have HM := Lib.hid hm
  have HV := Lib.hid hv
  obtain ⟨a1, cp, rfl, hcap⟩ := hv.form
  obtain ⟨ma, mc, rfl, _⟩ := hm.form
  clear hm hv
  obtain ⟨n, hn⟩ : ∃ n, L.length = n := ⟨_, rfl⟩
  obtain ⟨mn, hmn⟩ : ∃ n, M.length = n := ⟨_, rfl⟩
  rw [hn] at HV hl hcap ⊢
  rw [hmn] at HM ⊢
  have HN := Lib.hid hn
  have HMN := Lib.hid hmn
  clear hn hmn
  obtain ⟨r, hr⟩ : ∃ r, rholds M L = r := ⟨_, rfl⟩
  rw [hr]
  have HR := Lib.hid hr
  clear hr
  go_enter Try.func14, Try.ntmps14
  go_wp2_with fail
  go_loopw [5] (fun iv wr => ∃ k : Nat, k ≤ n ∧ iv = .int .i64 k ∧ (∀ i, i < k → rholds1 M L[i]! = true) ∧ Below w.heap.size w wr) (fun iv _ => n - (intOf iv).toNat)
  case atStart => exact ⟨0, by omega, rfl, fun i hi => by omega, Below.refl _ _⟩
  case round =>
    obtain ⟨k, hk, rfl, hho, hb⟩ := hrel
    have BB := Lib.hid hb
    have HO := Lib.hid hho
    clear hb hho
    by_cases hlt : k < n
    · obtain ⟨b, off, rfl, hbl, hln, hc⟩ := HV.out.addr hlt
      obtain ⟨c0, c1, c2, c3, c4, c5⟩ := en_cells hc (by rw [hln]; exact hlt)
      rw [← BB.out.cell (p := ⟨b, _, none⟩) hbl] at c0 c1 c2 c3 c4 c5
      have HNO := Lib.hid (fun h => rholds_no M L (i := k) (by rw [HN.out]; exact hlt) h)
      clear hc hln
      have HK := Lib.hid (show rholds1 M L[k]! = (hasM M (L[k]!).1 && (decide ((M[(L[k]!).1.toNat]!).1 = (L[k]!).2.1.1) && decide ((M[(L[k]!).1.toNat]!).2.1 = (L[k]!).2.1.2.1))) from rfl)
      have HH : Hid (hasM M (L[k]!).1 = decide (0 ≤ (L[k]!).1 ∧ (L[k]!).1 < mn)) := Lib.hid (by unfold hasM; rw [HMN.out])
      rw [HH.out] at HK
      clear HH
      obtain ⟨y, hy⟩ : ∃ y, L[k]! = y := ⟨_, rfl⟩
      rw [hy] at c0 c1 c2 c3 c4 c5 HNO
      have HY := Lib.hid hy
      rw [hy] at HK
      clear hy
      obtain ⟨y0, ⟨y1, y2, y3⟩, y4, y5⟩ := y
      simp only at c0 c1 c2 c3 c4 c5 HK
      clear c3 c4 c5
      by_cases h1 : y0 < 0
      · rw [decide_eq_false (by omega), Bool.false_and] at HK
        go_wp2
        have q1 : decide (y0 < 0) = true := decide_eq_true (by omega)
        go_quiet (fail)
        go_wp2
        go_ret
        exact ⟨by rw [← HR.out, HNO.out HK.out]; rfl, below_drewN BB.out _⟩
      by_cases h2 : (mn : Int) ≤ y0
      · rw [decide_eq_false (by omega), Bool.false_and] at HK
        go_wp2
        have q1 : decide (y0 < 0) = false := decide_eq_false (by omega)
        have q2 : decide ((mn : Int) ≤ y0) = true := decide_eq_true (by omega)
        go_quiet (fail)
        go_wp2
        go_ret
        exact ⟨by rw [← HR.out, HNO.out HK.out]; rfl, below_drewN BB.out _⟩
      rw [decide_eq_true (by omega), Bool.true_and] at HK
      obtain ⟨j, rfl⟩ : ∃ j : Nat, y0 = j := ⟨y0.toNat, by omega⟩
      rw [Int.toNat_natCast] at HK
      have hj : j < mn := by omega
      obtain ⟨b2, off2, rfl, hbl2, hln2, hc2⟩ := HM.out.addr hj
      obtain ⟨d0, d1, d2⟩ := wd_cells hc2 (by rw [hln2]; exact hj)
      rw [← BB.out.cell (p := ⟨b2, _, none⟩) hbl2] at d0 d1 d2
      clear hc2 hln2 d2
      obtain ⟨z, hz⟩ : ∃ z, M[j]! = z := ⟨_, rfl⟩
      rw [hz] at d0 d1 HK
      clear hz
      obtain ⟨m0, m1, m2⟩ := z
      simp only at d0 d1 HK
      by_cases h3 : m0 = y1
      · have h3' : (m0 != y1) = false := by rw [bne_eq_false_iff_eq]; exact h3
        rw [decide_eq_true h3, Bool.true_and] at HK
        have H3 := Lib.hid h3
        clear h3
        by_cases h4 : m1 = y2
        · have h4' : (m1 != y2) = false := by rw [bne_eq_false_iff_eq]; exact h4
          rw [decide_eq_true h4] at HK
          have H4 := Lib.hid h4
          clear h4
          go_wp2
          have q1 : decide ((j : Int) < 0) = false := decide_eq_false (by omega)
          have q2 : decide ((mn : Int) ≤ (j : Int)) = false := decide_eq_false (by omega)
          have q3 : ¬ ((j : Int) < 0) := by omega
          have q4 : ¬ ((mn : Int) ≤ (j : Int)) := by omega
          go_quiet (fail)
          go_wp2
          go_roundw
          case rel =>
            refine ⟨k + 1, by omega, by go_num, fun i hi => ?_, below_drewN BB.out _⟩
            by_cases e : i = k
            · subst e; rw [HY.out]; exact HK.out
            · exact HO.out i (by omega)
          case measure => simp [intOf]; omega
        · have h4' : (m1 != y2) = true := by rw [bne_iff_ne]; exact h4
          rw [decide_eq_false h4] at HK
          go_wp2
          have q1 : decide ((j : Int) < 0) = false := decide_eq_false (by omega)
          have q2 : decide ((mn : Int) ≤ (j : Int)) = false := decide_eq_false (by omega)
          have q3 : ¬ ((j : Int) < 0) := by omega
          have q4 : ¬ ((mn : Int) ≤ (j : Int)) := by omega
          go_quiet (fail)
          go_wp2
          go_ret
          exact ⟨by rw [← HR.out, HNO.out HK.out]; rfl, below_drewN BB.out _⟩
      · have h3' : (m0 != y1) = true := by rw [bne_iff_ne]; exact h3
        rw [decide_eq_false h3, Bool.false_and] at HK
        go_wp2
        have q1 : decide ((j : Int) < 0) = false := decide_eq_false (by omega)
        have q2 : decide ((mn : Int) ≤ (j : Int)) = false := decide_eq_false (by omega)
        have q3 : ¬ ((j : Int) < 0) := by omega
        have q4 : ¬ ((mn : Int) ≤ (j : Int)) := by omega
        go_quiet (fail)
        go_wp2
        go_ret
        exact ⟨by rw [← HR.out, HNO.out HK.out]; rfl, below_drewN BB.out _⟩
    · obtain rfl : k = n := by omega
      go_wp2
      go_ret
      exact ⟨by rw [← HR.out, rholds_yes M L (fun i hi => HO.out i (by rw [HN.out] at hi; exact hi))]; rfl, BB.out⟩
end Go.Proofs.Ytmophafgmimhcaa
