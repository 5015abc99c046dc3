/- is: a bag contains exactly the given items. -/
import Derived.Test.YtknnnjnnphdipaaRcAwake
import Derived.Laws.StructEq
namespace Go.Proofs.Ytknnnjnnphdipaa
open Go.ChangeShapes Go.WideShapes Go.ChangeAt Go.RowKit Go.Maps
theorem guardK : Try.prog.eqGuardType Try.prog.depth 35 = false := by kernel_rfl
def eqI (a b : It) : Bool := a.1 == b.1 && (a.2.1 == b.2.1 && a.2.2 == b.2.2)
theorem eqI_iff (a b : It) : eqI a b = true ↔ a = b := by
  obtain ⟨a0, a1, a2⟩ := a
  obtain ⟨b0, b1, b2⟩ := b
  simp [eqI]
theorem equalK (a b c a' b' c' : Int) (w : World) : (Op.equalIn 10000 35 (.agg #[.int .i64 a, .int .i64 b, .int .i64 c]) (.agg #[.int .i64 a', .int .i64 b', .int .i64 c'])).run Try.prog w = .ok (eqI (a, b, c) (a', b', c')) w := by
  have u3 := Try.underlying3
  have a3 := Try.isAgg3
  have z3 := Try.sizeOf3
  have u2 := Try.underlying2
  have a2 := Try.isAgg2
  have z2 := Try.sizeOf2
  have hS : Try.prog.underlying 35 = some (.struct (Try.prog.fieldsOf 35)) := by kernel_rfl
  have hp : Try.prog.stoodInHeld 35 = false := by kernel_rfl
  rw [show (10000 : Nat) = 9999 + 1 from rfl, run_equalIn_agg w 9999 35 _ _ hS hp]
  simp only [Program.fieldsOf, Try.underlying35]
  go_simp
  by_cases h1 : a = a' <;> by_cases h2 : b = b' <;> by_cases h3 : c = c' <;> simp [eqI, h1, h2, h3]
theorem neqK (a b c a' b' c' : Int) (w : World) : (binOp .neq 35 (.agg #[.int .i64 a, .int .i64 b, .int .i64 c]) (.agg #[.int .i64 a', .int .i64 b', .int .i64 c'])).run Try.prog w = .ok (.bool (!eqI (a, b, c) (a', b', c'))) w := by
  rw [run_neq_struct, equalK]; rfl
set_option maxRecDepth 100000 in
set_option maxHeartbeats 3200000 in
theorem is_any (cs : Array Value) (L : List It) (v : Value) (M : List It) (w : World) (h : BV cs L) (hv : PS w v M) (hl : M.length ≤ 1000) : Calls Try.prog 12 #[.agg cs, v] w (Pr (decide (L = M)) w) := by
  have HV := Lib.hid hv
  have V1 := Lib.hid h
  have CS := Lib.hid h.size
  have hL64 := h.len
  obtain ⟨a1, c1, rfl⟩ := hv.form
  clear h hv
  obtain ⟨n, hn⟩ : ∃ n, M.length = n := ⟨_, rfl⟩
  obtain ⟨m, hm⟩ : ∃ n, L.length = n := ⟨_, rfl⟩
  rw [hn] at hl HV ⊢
  rw [hm] at hL64
  have HN := Lib.hid hn
  have HM := Lib.hid hm
  clear hn hm
  obtain ⟨r, hr⟩ : ∃ r, decide (L = M) = r := ⟨_, rfl⟩
  rw [hr]
  have HR := Lib.hid hr
  clear hr
  go_enter Try.func12, Try.ntmps12
  go_upto_region 1 with fail
  obtain ⟨q, hq⟩ : ∃ x, w.heap.size = x := ⟨_, rfl⟩
  obtain ⟨W, hW⟩ : ∃ W, w.alloc (.cells cs 29) = W := ⟨_, rfl⟩
  have B1 : Hid (Box W q cs 29) := Lib.hid (by rw [← hW]; exact Box.new w cs 29 hq.symm)
  have BW : Hid (Below w.heap.size w W) := Lib.hid (by rw [← hW]; exact below1 w _)
  rw [hW, hq]
  clear hW hq
  go_wp2_with (first
    | ((with_reducible refine wpList_loadBag q cs 29 ?_ ?_ ?_ ?_); rfl; exact B1.out; exact CS.out)
    | fail)
  refine (items_any cs L W V1.out).mono ?_
  rintro e w2 ⟨iv, rfl, hr, hb⟩
  obtain ⟨ia, ic, rfl⟩ := hr.form
  have P2 := Lib.hid hr.ps
  have B2 := Lib.hid (B1.out.below hb)
  have BW2 := Lib.hid (BW.out.trans (hb.mono BW.out.size))
  rw [HM.out] at P2 ⊢
  clear hb hr B1 BW
  by_cases hnm : m = n
  · subst hnm
    go_wp2_with (first
      | ((with_reducible refine wpList_loadBagG q cs 29 ?_ ?_ ?_ ?_ ?_); rfl; rfl; exact B2.out; exact CS.out)
      | fail)
    refine (len_any cs L w2 V1.out).mono ?_
    rintro e w3 ⟨rfl, hb⟩
    rw [HM.out]
    have P3 := Lib.hid (P2.out.below hb)
    have BW3 := Lib.hid (BW2.out.trans (hb.mono BW2.out.size))
    have HV3 := Lib.hid (HV.out.below BW3.out)
    clear hb B2 BW2 P2 HV
    have qN := neqK
    have gP := guardK
    go_wp2_with fail
    obtain ⟨wo, rfl⟩ : ∃ wo, wo = w3 := ⟨_, rfl⟩
    go_loopw [23] (fun iv wr => ∃ k : Nat, k ≤ m ∧ iv = .int .i64 k ∧ (∀ i, i < k → L.getD i zIt = M.getD i zIt) ∧ Below wo.heap.size wo wr) (fun iv _ => m - (intOf iv).toNat)
    case atStart => exact ⟨0, by omega, rfl, fun i hi => by omega, Below.refl _ _⟩
    case round =>
      obtain ⟨k, hk, rfl, hs, hb⟩ := hrel
      have BB := Lib.hid hb
      have HS := Lib.hid hs
      clear hb hs
      by_cases hlt : k < m
      · obtain ⟨b, off, rfl, hbl, hc⟩ := P3.out.addr hlt
        obtain ⟨c0, c1, c2⟩ := hc k hlt
        obtain ⟨b2, off2, rfl, hbl2, hc2⟩ := HV3.out.addr hlt
        obtain ⟨d0, d1, d2⟩ := hc2 k hlt
        rw [← BB.out.cell (p := ⟨b, _, none⟩) hbl] at c0 c1 c2
        rw [← BB.out.cell (p := ⟨b2, _, none⟩) hbl2] at d0 d1 d2
        clear hc hc2
        have HE := Lib.hid (eqI_iff (L.getD k zIt) (M.getD k zIt))
        obtain ⟨y, hy⟩ : ∃ y, L.getD k zIt = y := ⟨_, rfl⟩
        obtain ⟨z, hz⟩ : ∃ y, M.getD k zIt = y := ⟨_, rfl⟩
        rw [hy] at c0 c1 c2 HE
        rw [hz] at d0 d1 d2 HE
        have HY := Lib.hid hy
        have HZ := Lib.hid hz
        clear hy hz
        obtain ⟨y0, y1, y2⟩ := y
        obtain ⟨z0, z1, z2⟩ := z
        simp only at c0 c1 c2 d0 d1 d2
        cases he : eqI (y0, y1, y2) (z0, z1, z2) with
        | true =>
          rw [he] at HE
          go_wp2
          go_quiet (fail)
          go_wp2
          go_roundw
          case rel =>
            refine ⟨k + 1, by omega, by go_num, fun i hi => ?_, below_drewN BB.out _⟩
            by_cases e : i = k
            · subst e; rw [HY.out, HZ.out, HE.out.1 (by trivial)]
            · exact HS.out i (by omega)
          case measure => simp [intOf]; omega
        | false =>
          rw [he] at HE
          go_wp2
          go_quiet (fail)
          go_wp2
          go_ret
          refine ⟨?_, below_drewN (BW3.out.trans (BB.out.mono BW3.out.size)) _⟩
          have e : r = false := HR.out.symm.trans (decide_eq_false (by rintro rfl; rw [HY.out] at HZ; exact absurd (HE.out.2 HZ.out) (by simp)))
          rw [e]; rfl
      · go_wp2
        go_ret
        refine ⟨?_, BW3.out.trans (BB.out.mono BW3.out.size)⟩
        obtain rfl : k = m := by omega
        have e : r = true := HR.out.symm.trans (decide_eq_true (by
          apply List.ext_getElem (by rw [HN.out, HM.out])
          intro i h1 h2
          have := HS.out i (by rw [HM.out] at h1; exact h1)
          rw [List.getD, List.getD, List.getElem?_eq_getElem h1, List.getElem?_eq_getElem h2] at this
          exact this))
        rw [e]; rfl
  · have hne : ((m : Int) != n) = true := by rw [bne_iff_ne]; omega
    have HX := Lib.hid hnm
    clear hnm
    go_wp2_with fail
    go_ret
    refine ⟨?_, BW2.out⟩
    have e : r = false := HR.out.symm.trans (decide_eq_false (by rintro rfl; exact HX.out (HM.out.symm.trans HN.out)))
    rw [e]; rfl
end Go.Proofs.Ytknnnjnnphdipaa
