/- Holds, check of a model. -/
import Derived.Test.YtmophafgmimhcaaMdSmall
namespace Go.Proofs.Ytmophafgmimhcaa
open Go.ChangeShapes Go.WideShapes Go.ChangeAt Go.RowKit Go.Maps
theorem guardW : Try.prog.eqGuardType Try.prog.depth 43 = false := by kernel_rfl
def eqW (a b : Wd) : Bool := a.1 == b.1 && (a.2.1 == b.2.1 && a.2.2 == b.2.2)
theorem eqW_iff (a b : Wd) : eqW a b = true ↔ a = b := by
  obtain ⟨a0, a1, a2⟩ := a
  obtain ⟨b0, b1, b2⟩ := b
  simp [eqW]
theorem eqW_dec (a b : Wd) : eqW a b = decide (a = b) := by
  rw [Bool.eq_iff_iff, eqW_iff, decide_eq_true_iff]
theorem equalW (a b c a' b' c' : Int) (w : World) : (Op.equalIn 10000 43 (.agg #[.int .i64 a, .int .u32 b, .int .u32 c]) (.agg #[.int .i64 a', .int .u32 b', .int .u32 c'])).run Try.prog w = .ok (eqW (a, b, c) (a', b', c')) w := by
  have u3 := Try.underlying41
  have a3 := Try.isAgg41
  have z3 := Try.sizeOf41
  have u2 := Try.underlying2
  have a2 := Try.isAgg2
  have z2 := Try.sizeOf2
  have hS : Try.prog.underlying 43 = some (.struct (Try.prog.fieldsOf 43)) := by kernel_rfl
  have hp : Try.prog.stoodInHeld 43 = false := by kernel_rfl
  rw [show (10000 : Nat) = 9999 + 1 from rfl, run_equalIn_agg w 9999 43 _ _ hS hp]
  simp only [Program.fieldsOf, Try.underlying43]
  go_simp
  by_cases h1 : a = a' <;> by_cases h2 : b = b' <;> by_cases h3 : c = c' <;> simp [eqW, h1, h2, h3]
theorem neqW (a b c a' b' c' : Int) (w : World) : (binOp .neq 43 (.agg #[.int .i64 a, .int .u32 b, .int .u32 c]) (.agg #[.int .i64 a', .int .u32 b', .int .u32 c'])).run Try.prog w = .ok (.bool (!eqW (a, b, c) (a', b', c'))) w := by
  rw [run_neq_struct, equalW]; rfl
set_option maxRecDepth 100000 in
set_option maxHeartbeats 1600000 in
theorem holds_any (mv : Value) (M : List Wd) (v : Value) (L : List En) (w : World) (hm : WS w mv M) (hv : ES w v L) (hl : L.length ≤ 1000) : Calls Try.prog 13 #[.agg #[mv], v] w fun e w' => e = .returned (.bool (holds M L)) ∧ Below w.heap.size w w' := by
  have HM := Lib.hid hm
  have HV := Lib.hid hv
  obtain ⟨a1, cp, rfl, hcap⟩ := hv.form
  obtain ⟨ma, mc, rfl, _⟩ := hm.form
  clear hm hv
  obtain ⟨n, hn⟩ : ∃ n, L.length = n := ⟨_, rfl⟩
  obtain ⟨mn, hmn⟩ : ∃ n, M.length = n := ⟨_, rfl⟩
  rw [hn] at HV hl hcap ⊢
  rw [hmn] at HM ⊢
  have HN := Lib.hid hn
  clear hn hmn
  obtain ⟨r, hr⟩ : ∃ r, holds M L = r := ⟨_, rfl⟩
  rw [hr]
  have HR := Lib.hid hr
  clear hr
  go_enter Try.func13, Try.ntmps13
  go_upto_region 1 with fail
  obtain ⟨W, hW⟩ : ∃ W, w.alloc (.cells #[.slice ma mn mc] 27) = W := ⟨_, rfl⟩
  obtain ⟨q, hq⟩ : ∃ q, w.heap.size = q := ⟨_, rfl⟩
  have B : Hid (Box W q #[.slice ma mn mc] 27) := Lib.hid (by rw [← hW]; exact Box.new w _ 27 hq.symm)
  have BB : Hid (Below w.heap.size w W) := Lib.hid (by rw [← hW]; exact below1 w _)
  rw [hW, hq]
  clear hW hq
  go_wp2_with fail
  go_loopw [11] (fun iv wr => ∃ k : Nat, k ≤ n ∧ iv = .int .i64 k ∧ (∀ i, i < k → holds1 M L[i]! = true) ∧ Box wr q #[.slice ma mn mc] 27 ∧ Below w.heap.size w wr) (fun iv _ => n - (intOf iv).toNat)
  case atStart => exact ⟨0, by omega, rfl, fun i hi => by omega, B.out, BB.out⟩
  case round =>
    obtain ⟨k, hk, rfl, hho, hB, hb⟩ := hrel
    replace BB := Lib.hid hb
    replace B := Lib.hid hB
    have HO := Lib.hid hho
    clear hb hho hB
    by_cases hlt : k < n
    · obtain ⟨b, off, rfl, hbl, hln, hc⟩ := HV.out.addr hlt
      obtain ⟨c0, c1, c2, c3, c4, c5⟩ := en_cells hc (by rw [hln]; exact hlt)
      rw [← BB.out.cell (p := ⟨b, _, none⟩) hbl] at c0 c1 c2 c3 c4 c5
      have HK := Lib.hid (show holds1 M L[k]! = (hasM M (L[k]!).1 && decide (atM M (L[k]!).1 = ((L[k]!).2.1.1, (L[k]!).2.1.2.1, 0))) from rfl)
      have AT := Lib.hid (fun W (h : Below w.heap.size w W) => at_any _ M (L[k]!).1 W (HM.out.below h))
      have HNO := Lib.hid (fun h => holds_no M L (i := k) (by rw [HN.out]; exact hlt) h)
      clear hc hln
      unfold wdV at AT
      obtain ⟨y, hy⟩ : ∃ y, L[k]! = y := ⟨_, rfl⟩
      rw [hy] at c0 c1 c2 c3 c4 c5 AT HNO
      have HY := Lib.hid hy
      rw [hy] at HK
      clear hy
      obtain ⟨y0, ⟨y1, y2, y3⟩, y4, y5⟩ := y
      obtain ⟨m, hm⟩ : ∃ m, atM M y0 = m := ⟨_, rfl⟩
      obtain ⟨ok, hok⟩ : ∃ m, hasM M y0 = m := ⟨_, rfl⟩
      simp only at c0 c1 c2 c3 c4 c5 AT HK
      rw [hm, hok] at AT HK
      clear hm hok
      obtain ⟨m0, m1, m2⟩ := m
      simp only at AT
      go_upto_region 4 with fail
      obtain ⟨W1, hW⟩ : ∃ W, wr.alloc (.cells #[.int .i64 y0, .int .i64 y1, .int .u32 y2, .int .u32 y3, .int .i64 y4, .bool y5] 50) = W := ⟨_, rfl⟩
      obtain ⟨x, hq⟩ : ∃ q, wr.heap.size = q := ⟨_, rfl⟩
      have X : Hid (Box W1 x #[.int .i64 y0, .int .i64 y1, .int .u32 y2, .int .u32 y3, .int .i64 y4, .bool y5] 50) := Lib.hid (by rw [← hW]; exact Box.new wr _ 50 hq.symm)
      replace B : Hid (Box W1 q #[.slice ma mn mc] 27) := Lib.hid (by rw [← hW]; exact B.out.alloc _)
      replace BB : Hid (Below w.heap.size w W1) := Lib.hid (by rw [← hW]; exact BB.out.alloc BB.out.size _)
      rw [hW, hq]
      clear hW hq c0 c1 c2 c3 c4 c5
      have z0 := X.out.cell 0
      have zb := B.out.cell 0
      simp at z0 zb
      go_wp2_with fail
      refine (AT.out W1 BB.out).mono ?_
      rintro e w2 ⟨rfl, hb⟩
      replace X := Lib.hid (X.out.below hb)
      replace B := Lib.hid (B.out.below hb)
      replace BB := Lib.hid (BB.out.trans (hb.mono BB.out.size))
      clear hb z0 zb AT
      go_upto_region 5 with fail
      obtain ⟨W3, hW⟩ : ∃ W, w2.alloc (.cells #[.int .i64 m0, .int .u32 m1, .int .u32 m2] 43) = W := ⟨_, rfl⟩
      obtain ⟨p, hq⟩ : ∃ q, w2.heap.size = q := ⟨_, rfl⟩
      have Y : Hid (Box W3 p #[.int .i64 m0, .int .u32 m1, .int .u32 m2] 43) := Lib.hid (by rw [← hW]; exact Box.new w2 _ 43 hq.symm)
      replace B : Hid (Box W3 q #[.slice ma mn mc] 27) := Lib.hid (by rw [← hW]; exact B.out.alloc _)
      replace X : Hid (Box W3 x #[.int .i64 y0, .int .i64 y1, .int .u32 y2, .int .u32 y3, .int .i64 y4, .bool y5] 50) := Lib.hid (by rw [← hW]; exact X.out.alloc _)
      replace BB : Hid (Below w.heap.size w W3) := Lib.hid (by rw [← hW]; exact BB.out.alloc BB.out.size _)
      rw [hW, hq]
      clear hW hq
      cases ok with
      | false =>
        rw [Bool.false_and] at HK
        go_wp2_with fail
        go_ret
        exact ⟨by rw [← HR.out, HNO.out HK.out]; rfl, BB.out⟩
      | true =>
        rw [Bool.true_and] at HK
        have z1 := X.out.cell 1
        have z2 := X.out.cell 2
        have u0 := Y.out.cell 0
        have u1 := Y.out.cell 1
        have u2 := Y.out.cell 2
        simp at z1 z2 u0 u1 u2
        have qN := neqW
        have gP := guardW
        have HE := Lib.hid (eqW_dec (m0, m1, m2) (y1, y2, 0))
        rw [← HE.out] at HK
        clear HE
        cases he : eqW (m0, m1, m2) (y1, y2, 0) with
        | true =>
          rw [he] at HK
          go_wp2_with fail
          go_roundw
          case rel =>
            refine ⟨k + 1, by omega, by go_num, fun i hi => ?_, B.out, BB.out⟩
            by_cases e : i = k
            · subst e; rw [HY.out]; exact HK.out
            · exact HO.out i (by omega)
          case measure => simp [intOf]; omega
        | false =>
          rw [he] at HK
          go_wp2_with fail
          go_ret
          exact ⟨by rw [← HR.out, HNO.out HK.out]; rfl, BB.out⟩
    · obtain rfl : k = n := by omega
      go_wp2_with fail
      go_ret
      exact ⟨by rw [← HR.out, holds_take M L (fun i hi => HO.out i (by rw [HN.out] at hi; exact hi))]; rfl, BB.out⟩
set_option maxRecDepth 100000 in
set_option maxHeartbeats 1600000 in
theorem mcheck_any (mv : Value) (M : List Wd) (v : Value) (L : List En) (w : World) (hm : WS w mv M) (hv : ES w v L) (hl : L.length ≤ 1000) : Calls Try.prog 23 #[.agg #[mv], v] w fun e w' => e = .returned (.int .i64 (chkM M L)) ∧ Below w.heap.size w w' := by
  have HM := Lib.hid hm
  have HV := Lib.hid hv
  obtain ⟨a1, cp, rfl, hcap⟩ := hv.form
  obtain ⟨ma, mc, rfl, _⟩ := hm.form
  clear hm hv
  obtain ⟨n, hn⟩ : ∃ n, L.length = n := ⟨_, rfl⟩
  obtain ⟨mn, hmn⟩ : ∃ n, M.length = n := ⟨_, rfl⟩
  rw [hn] at HV hl hcap ⊢
  rw [hmn] at HM ⊢
  have HN := Lib.hid hn
  clear hn hmn
  obtain ⟨r, hr⟩ : ∃ r, chkM M L = r := ⟨_, rfl⟩
  rw [hr]
  have HR := Lib.hid hr
  unfold chkM at HR
  clear hr
  have CK := Lib.hid (fun W (h : Below w.heap.size w W) => checkL_any _ L W (HV.out.below h) (by rw [HN.out]; exact hl))
  obtain ⟨c, hc⟩ : ∃ c, chkL L = c := ⟨_, rfl⟩
  rw [hc] at HR CK
  clear hc
  go_enter Try.func23, Try.ntmps23
  go_upto_region 1 with fail
  obtain ⟨W, hW⟩ : ∃ W, w.alloc (.cells #[.slice ma mn mc] 27) = W := ⟨_, rfl⟩
  obtain ⟨q, hq⟩ : ∃ q, w.heap.size = q := ⟨_, rfl⟩
  have B : Hid (Box W q #[.slice ma mn mc] 27) := Lib.hid (by rw [← hW]; exact Box.new w _ 27 hq.symm)
  have BB : Hid (Below w.heap.size w W) := Lib.hid (by rw [← hW]; exact below1 w _)
  rw [hW, hq]
  clear hW hq
  go_wp2_with fail
  refine (CK.out W BB.out).mono ?_
  rintro e w1 ⟨rfl, hb⟩
  replace B := Lib.hid (B.out.below hb)
  replace BB := Lib.hid (BB.out.trans (hb.mono BB.out.size))
  clear hb CK
  by_cases h0 : c = 0
  · subst h0
    rw [if_neg (by simp)] at HR
    go_wp2_with fail
    go_loopw [17] (fun iv wr => ∃ k : Nat, k ≤ n ∧ iv = .int .i64 k ∧ (∀ i, i < k → hasM M L[i]!.1 = true) ∧ Box wr q #[.slice ma mn mc] 27 ∧ Below w.heap.size w wr) (fun iv _ => n - (intOf iv).toNat)
    case atStart => exact ⟨0, by omega, rfl, fun i hi => by omega, B.out, BB.out⟩
    case round =>
      obtain ⟨k, hk, rfl, hho, hB, hb⟩ := hrel
      replace BB := Lib.hid hb
      replace B := Lib.hid hB
      have HO := Lib.hid hho
      clear hb hho hB
      by_cases hlt : k < n
      · obtain ⟨b, off, rfl, hbl, hln, hc⟩ := HV.out.addr hlt
        obtain ⟨c0, c1, c2, c3, c4, c5⟩ := en_cells hc (by rw [hln]; exact hlt)
        rw [← BB.out.cell (p := ⟨b, _, none⟩) hbl] at c0 c1 c2 c3 c4 c5
        have AT := Lib.hid (fun W (h : Below w.heap.size w W) => at_any _ M (L[k]!).1 W (HM.out.below h))
        have HNO := Lib.hid (fun h => hasL_no M L (i := k) (by rw [HN.out]; exact hlt) h)
        clear hc hln
        unfold wdV at AT
        obtain ⟨y, hy⟩ : ∃ y, L[k]! = y := ⟨_, rfl⟩
        rw [hy] at c0 c1 c2 c3 c4 c5 AT HNO
        have HY := Lib.hid hy
        clear hy
        obtain ⟨y0, ⟨y1, y2, y3⟩, y4, y5⟩ := y
        obtain ⟨m, hm⟩ : ∃ m, atM M y0 = m := ⟨_, rfl⟩
        obtain ⟨ok, hok⟩ : ∃ m, hasM M y0 = m := ⟨_, rfl⟩
        simp only at c0 c1 c2 c3 c4 c5 AT HNO
        rw [hm, hok] at AT
        rw [hok] at HNO
        have HOK := Lib.hid hok
        clear hm hok
        obtain ⟨m0, m1, m2⟩ := m
        simp only at AT
        go_upto_region 7 with fail
        obtain ⟨W1, hW⟩ : ∃ W, wr.alloc (.cells #[.int .i64 y0, .int .i64 y1, .int .u32 y2, .int .u32 y3, .int .i64 y4, .bool y5] 50) = W := ⟨_, rfl⟩
        obtain ⟨x, hq⟩ : ∃ q, wr.heap.size = q := ⟨_, rfl⟩
        have X : Hid (Box W1 x #[.int .i64 y0, .int .i64 y1, .int .u32 y2, .int .u32 y3, .int .i64 y4, .bool y5] 50) := Lib.hid (by rw [← hW]; exact Box.new wr _ 50 hq.symm)
        replace B : Hid (Box W1 q #[.slice ma mn mc] 27) := Lib.hid (by rw [← hW]; exact B.out.alloc _)
        replace BB : Hid (Below w.heap.size w W1) := Lib.hid (by rw [← hW]; exact BB.out.alloc BB.out.size _)
        rw [hW, hq]
        clear hW hq c0 c1 c2 c3 c4 c5
        have z0 := X.out.cell 0
        have zb := B.out.cell 0
        simp at z0 zb
        go_wp2_with fail
        refine (AT.out W1 BB.out).mono ?_
        rintro e w2 ⟨rfl, hb⟩
        replace B := Lib.hid (B.out.below hb)
        replace BB := Lib.hid (BB.out.trans (hb.mono BB.out.size))
        clear hb z0 zb AT X
        replace B := Lib.hid (B.out.alloc (.cells #[.int .i64 m0, .int .u32 m1, .int .u32 m2] 43))
        replace BB := Lib.hid (BB.out.alloc BB.out.size (.cells #[.int .i64 m0, .int .u32 m1, .int .u32 m2] 43))
        cases ok with
        | false =>
          rw [HNO.out rfl] at HR
          go_wp2_with fail
          go_ret
          exact ⟨by rw [← HR.out]; rfl, BB.out⟩
        | true =>
          go_wp2_with fail
          go_roundw
          case rel =>
            refine ⟨k + 1, by omega, by go_num, fun i hi => ?_, B.out, BB.out⟩
            by_cases e : i = k
            · subst e; rw [HY.out]; exact HOK.out
            · exact HO.out i (by omega)
          case measure => simp [intOf]; omega
      · obtain rfl : k = n := by omega
        rw [hasL_yes M L (fun i hi => HO.out i (by rw [HN.out] at hi; exact hi))] at HR
        go_wp2_with fail
        go_ret
        exact ⟨by rw [← HR.out]; rfl, BB.out⟩
  · have h0' : (c != 0) = true := by rw [bne_iff_ne]; exact h0
    rw [if_pos h0] at HR
    go_wp2_with fail
    go_ret
    exact ⟨by rw [← HR.out]; rfl, BB.out⟩
end Go.Proofs.Ytmophafgmimhcaa
