/- desc.check. -/
import Derived.Test.YtfegeahieajmkaaDoorDsPack
import Derived.Deep.DeepCutAuto
namespace Go.Proofs.YtfegeahieajmkaaDoor
open Go.ChangeShapes Go.WideShapes Go.ChangeAt Go.RowKit Go.Maps
open Lay (startL checkI placeI mayI sizeI Ok starts checkI_ok)
/-- A descriptor as a value; v: its entries. -/
abbrev dV (a b c : Int) (v : Value) : Value := .agg #[.int .i64 a, .int .i64 b, .int .i64 c, v]
/-- Two boxes that hold a layout and a descriptor, in a world behind w0. -/
structure LDs (T C B a b c : Int) (v : Value) (q : Nat) (w0 W : World) : Prop where
  l : Box W q #[.int .i64 T, .int .i64 C, .int .i64 B] 29
  d : Box W (q + 1) #[.int .i64 a, .int .i64 b, .int .i64 c, v] 25
  g : Lay.Gl W
  bl : Below w0.heap.size w0 W
theorem LDs.below {T C B a b c : Int} {v : Value} {q : Nat} {w0 W W1 : World} (h : LDs T C B a b c v q w0 W) (hb : Below W.heap.size W W1) : LDs T C B a b c v q w0 W1 :=
  ⟨h.l.below hb, h.d.below hb, h.g.below hb, h.bl.trans (hb.mono h.bl.size)⟩
theorem LDs.cs {T C B a b c : Int} {v : Value} {q : Nat} {w0 W : World} (h : LDs T C B a b c v q w0 W) : (W.cell? ⟨q, 0, none⟩ = some (.int .i64 T) ∧ W.cell? ⟨q, 1, none⟩ = some (.int .i64 C) ∧ W.cell? ⟨q, 2, none⟩ = some (.int .i64 B)) ∧
    W.cell? ⟨q + 1, 0, none⟩ = some (.int .i64 a) ∧ W.cell? ⟨q + 1, 1, none⟩ = some (.int .i64 b) ∧ W.cell? ⟨q + 1, 2, none⟩ = some (.int .i64 c) ∧ W.cell? ⟨q + 1, 3, none⟩ = some v :=
  ⟨⟨h.l.cell 0, h.l.cell 1, h.l.cell 2⟩, h.d.cell 0, h.d.cell 1, h.d.cell 2, h.d.cell 3⟩
theorem LDs.made (T C B a b c : Int) (v : Value) (w : World) (hg : Lay.Gl w) {q : Nat} (hq : w.heap.size = q) : LDs T C B a b c v q w ((w.alloc (.cells #[.int .i64 T, .int .i64 C, .int .i64 B] 29)).alloc (.cells #[.int .i64 a, .int .i64 b, .int .i64 c, v] 25)) := by
  have h1 := below1 w (.cells #[.int .i64 T, .int .i64 C, .int .i64 B] 29)
  have h2 := below1 (w.alloc (.cells #[.int .i64 T, .int .i64 C, .int .i64 B] 29)) (.cells #[.int .i64 a, .int .i64 b, .int .i64 c, v] 25)
  exact ⟨(Box.new w _ 29 hq.symm).below h2, Box.new _ _ 25 (by simp [hq]), (hg.below h1).below h2, h1.trans (h2.mono h1.size)⟩
set_option maxRecDepth 100000 in
set_option maxHeartbeats 6400000 in
theorem dcheck_any (T C B a b c : Int) (v : Value) (L : List En) (w : World) (hg : Lay.Gl w) (hv : ES w v L) (hl : L.length ≤ 1000) (ha : a < 9223372036854775808) : Calls Tryd.prog 42 #[.agg #[.int .i64 T, .int .i64 C, .int .i64 B], dV a b c v] w fun e w' => e = .returned (.int .i64 (chkD T C B (a, b, c, L))) ∧ Below w.heap.size w w' := by
  have HV := Lib.hid hv
  have HG := Lib.hid hg
  obtain ⟨a1, cp, rfl, hcap⟩ := hv.form
  obtain ⟨n, hn⟩ : ∃ n, L.length = n := ⟨_, rfl⟩
  rw [hn] at HV hl hcap ⊢
  have HN := Lib.hid hn
  clear hv hg hn
  obtain ⟨r, hr⟩ : ∃ r, chkD T C B (a, b, c, L) = r := ⟨_, rfl⟩
  rw [hr]
  have HR := Lib.hid hr
  unfold chkD at HR
  simp only at HR
  rw [HN.out] at HR
  clear hr
  have PL := Lib.hid (fun W h => Lay.place_any T C B a W h ha)
  have CK := Lib.hid (fun W h => Lay.check_any T C B W h)
  have EC := Lib.hid (fun W h => checkL_any (.slice a1 n cp) L W h (by rw [HN.out]; exact hl))
  have MY := Lib.hid (fun x W h => Lay.may_any T C B x W h)
  unfold Lay.LV at PL CK MY
  obtain ⟨pa, hpa⟩ : ∃ x, (placeI T C B a).1 = x := ⟨_, rfl⟩
  obtain ⟨pm, hpm⟩ : ∃ x, (placeI T C B a).2 = x := ⟨_, rfl⟩
  obtain ⟨ch, hch⟩ : ∃ x, checkI T C B = x := ⟨_, rfl⟩
  rw [hpa, hpm] at PL
  rw [hch] at CK
  rw [hpm, hch] at HR
  clear hpa hpm hch
  go_enter Tryd.func42, Tryd.ntmps42
  go_upto_region 1 with fail
  have LD := Lib.hid (LDs.made T C B a b c (.slice a1 n cp) w HG.out (q := w.heap.size) rfl)
  obtain ⟨W, hW⟩ : ∃ W, ((w.alloc (.cells #[.int .i64 T, .int .i64 C, .int .i64 B] 29)).alloc (.cells #[.int .i64 a, .int .i64 b, .int .i64 c, .slice a1 n cp] 25)) = W := ⟨_, rfl⟩
  obtain ⟨q, hq⟩ : ∃ q, w.heap.size = q := ⟨_, rfl⟩
  rw [hW, hq] at LD
  rw [hW, hq]
  clear hW hq
  obtain ⟨⟨x0, x1, x2⟩, y0, y1, y2, y3⟩ := LD.out.cs
  go_wp2_with fail
  refine (PL.out _ LD.out.g).mono ?_
  rintro e w9 ⟨rfl, hb⟩
  replace LD := Lib.hid (LD.out.below hb)
  clear hb
  clear x0 x1 x2 y0 y1 y2 y3
  obtain ⟨⟨x0, x1, x2⟩, y0, y1, y2, y3⟩ := LD.out.cs
  go_wp2_with fail
  refine (CK.out _ LD.out.g).mono ?_
  rintro e w9 ⟨rfl, hb⟩
  replace LD := Lib.hid (LD.out.below hb)
  clear hb
  clear x0 x1 x2 y0 y1 y2 y3
  obtain ⟨⟨x0, x1, x2⟩, y0, y1, y2, y3⟩ := LD.out.cs
  by_cases hc : ch = 0
  case neg =>
    have hc' : (ch != 0) = true := by rw [bne_iff_ne]; exact hc
    rw [if_pos hc] at HR
    go_wp2_with fail
    go_ret
    exact ⟨by rw [← HR.out]; rfl, LD.out.bl⟩
  subst hc
  rw [if_neg (by simp)] at HR
  by_cases hm : pm = 0
  · subst hm
    rw [if_pos rfl] at HR
    go_wp2_with fail
    go_ret
    exact ⟨by rw [← HR.out]; rfl, LD.out.bl⟩
  have hm' : (pm == 0) = false := by rw [beq_eq_false_iff_ne]; exact hm
  rw [if_neg hm] at HR
  by_cases hs1 : b < 1
  · rw [if_pos (Or.inl hs1)] at HR
    go_wp2_with fail
    go_ret
    exact ⟨by rw [← HR.out]; rfl, LD.out.bl⟩
  by_cases hs2 : 16777215 < b
  · rw [if_pos (Or.inr hs2)] at HR
    go_wp2_with fail
    go_ret
    exact ⟨by rw [← HR.out]; rfl, LD.out.bl⟩
  rw [if_neg (by omega)] at HR
  by_cases ht1 : c < 0
  · rw [if_pos (Or.inl ht1)] at HR
    go_wp2_with fail
    go_ret
    exact ⟨by rw [← HR.out]; rfl, LD.out.bl⟩
  by_cases ht2 : 3 < c
  · rw [if_pos (Or.inr ht2)] at HR
    go_wp2_with fail
    go_ret
    exact ⟨by rw [← HR.out]; rfl, LD.out.bl⟩
  rw [if_neg (by omega)] at HR
  go_wp2_with fail
  refine (EC.out _ (HV.out.below LD.out.bl)).mono ?_
  rintro e w9 ⟨rfl, hb⟩
  replace LD := Lib.hid (LD.out.below hb)
  clear hb
  clear x0 x1 x2 y0 y1 y2 y3
  obtain ⟨⟨x0, x1, x2⟩, y0, y1, y2, y3⟩ := LD.out.cs
  obtain ⟨ce, hce⟩ : ∃ x, chkL L = x := ⟨_, rfl⟩
  rw [hce] at HR
  rw [hce]
  clear hce
  by_cases he : ce = 0
  case neg =>
    have he' : (ce != 0) = true := by rw [bne_iff_ne]; exact he
    rw [if_pos he] at HR
    go_wp2_with fail
    go_ret
    exact ⟨by rw [← HR.out]; rfl, LD.out.bl⟩
  subst he
  rw [if_neg (by simp)] at HR
  clear hs1 hs2 ht1 ht2 hm' PL CK EC
  go_wp2_with fail
  clear x0 x1 x2 y0 y1 y2 y3
  obtain ⟨W2, hW2⟩ : ∃ x, w9 = x := ⟨_, rfl⟩
  rw [hW2] at LD
  rw [hW2]
  go_loopw [53] (fun iv wr => ∃ k : Nat, k ≤ n ∧ iv = .int .i64 k ∧ (∀ i, 0 < i → i < k → L[i - 1]!.1 < L[i]!.1) ∧ LDs T C B a b c (.slice a1 n cp) q w wr) (fun iv _ => n - (intOf iv).toNat)
  case atStart => exact ⟨0, by omega, rfl, fun i h1 h2 => by omega, LD.out⟩
  case round =>
    obtain ⟨k, hk, rfl, hno, hld⟩ := hrel
    replace LD := Lib.hid hld
    have NO := Lib.hid hno
    clear hld hno
    obtain ⟨⟨x0, x1, x2⟩, y0, y1, y2, y3⟩ := LD.out.cs
    by_cases hlt : k < n
    · obtain ⟨b0, off, rfl, hbl, hln, hc⟩ := HV.out.addr hlt
      obtain ⟨c0, c1, c2, c3, c4, c5⟩ := en_cells hc (by rw [hln]; exact hlt)
      rw [← LD.out.bl.cell (p := ⟨b0, _, none⟩) hbl] at c0 c1 c2 c3 c4 c5
      have P0 : Hid (∀ W', Below w.heap.size w W' → 0 < k → W'.cell? ⟨b0, off + (k - 1) * 6, none⟩ = some (.int .i64 (L[k - 1]!).1)) := Lib.hid (fun W' hW h => (hW.cell (p := ⟨b0, _, none⟩) hbl).trans (en_cells hc (k := k - 1) (by rw [hln]; omega)).1)
      have BL := Lib.hid hbl
      clear hc hln hbl
      obtain ⟨y, hy⟩ : ∃ y, L[k]! = y := ⟨_, rfl⟩
      rw [hy] at c0 c1 c2 c3 c4 c5
      have HY := Lib.hid hy
      clear hy
      obtain ⟨e0, ⟨e1, e2, e3⟩, e4, e5⟩ := y
      simp only at c0 c1 c2 c3 c4 c5
      go_upto_region 16 with fail
      have EB := Lib.hid (Box.new wr #[.int .i64 e0, .int .i64 e1, .int .u32 e2, .int .u32 e3, .int .i64 e4, .bool e5] 49 rfl)
      have B1 := Lib.hid (below1 wr (.cells #[.int .i64 e0, .int .i64 e1, .int .u32 e2, .int .u32 e3, .int .i64 e4, .bool e5] 49))
      replace LD := Lib.hid (LD.out.below B1.out)
      clear x0 x1 x2 y0 y1 y2 y3
      clear c0 c1 c2 c3 c4 c5 B1
      generalize wr.alloc (.cells #[.int .i64 e0, .int .i64 e1, .int .u32 e2, .int .u32 e3, .int .i64 e4, .bool e5] 49) = W3 at *
      generalize wr.heap.size = p at *
      have z0 := EB.out.cell 0
      simp at z0
      obtain ⟨⟨x0, x1, x2⟩, y0, y1, y2, y3⟩ := LD.out.cs
      rcases Nat.eq_zero_or_pos k with rfl | hk0
      · go_quiet (fail)
        go_wp2_with fail
        go_roundw
        case rel => exact ⟨1, by omega, by go_num, fun i h1 h2 => by omega, LD.out.below (below_drewN (Below.refl _ _) _)⟩
        case measure => simp [intOf]; omega
      · have zp := P0.out _ LD.out.bl hk0
        obtain ⟨m, rfl⟩ : ∃ m, k = m + 1 := ⟨k - 1, by omega⟩
        simp only [Nat.add_sub_cancel] at zp
        have wm : IntKind.i64.wrap (m : Int) = m := IntWalk.i64_in _ (by omega)
        have hm1 : m < n := by omega
        have hm2 : (0 : Int) < (m : Int) + 1 := by omega
        obtain ⟨pv, hpv⟩ : ∃ x, (L[m]!).1 = x := ⟨_, rfl⟩
        rw [hpv] at zp
        have HP := Lib.hid hpv
        clear hpv
        by_cases hle : e0 ≤ pv
        · have hd : decide (e0 ≤ pv) = true := decide_eq_true hle
          go_quiet (fail)
          go_wp2_with fail
          go_ret
          refine ⟨?_, LD.out.bl.trans (below_drewN (Below.refl _ _) _)⟩
          rw [← HR.out, if_pos (ascB_no (i := m + 1) (by omega) (by rw [HN.out]; exact hlt) (by rw [Nat.add_sub_cancel, HY.out, HP.out]; simp only; omega))]
          rfl
        · have hd : decide (e0 ≤ pv) = false := decide_eq_false hle
          go_quiet (fail)
          go_wp2_with fail
          go_roundw
          case rel =>
            refine ⟨m + 2, by omega, by go_num, fun i h1 h2 => ?_, LD.out.below (below_drewN (Below.refl _ _) _)⟩
            by_cases e : i = m + 1
            · subst e; rw [Nat.add_sub_cancel, HY.out, HP.out]; simp only; omega
            · exact NO.out i h1 (by omega)
          case measure => simp [intOf]; omega
    · obtain rfl : k = n := by omega
      rw [if_neg (by rw [ascB_yes (fun i h1 h2 => NO.out i h1 (by rw [HN.out] at h2; exact h2))]; simp)] at HR
      clear NO hk hlt
      go_wp2_with fail
      clear x0 x1 x2 y0 y1 y2 y3
      go_loopw [76] (fun iv wr => ∃ j : Nat, j ≤ k ∧ iv = .int .i64 j ∧ (∀ i, i < j → mayI T C B L[i]!.1 = true) ∧ LDs T C B a b c (.slice a1 k cp) q w wr) (fun iv _ => k - (intOf iv).toNat)
      case atStart => exact ⟨0, by omega, rfl, fun i h1 => by omega, LD.out⟩
      case round =>
        obtain ⟨j, hj, rfl, hno, hld⟩ := hrel
        replace LD := Lib.hid hld
        have NO := Lib.hid hno
        clear hld hno
        obtain ⟨⟨x0, x1, x2⟩, y0, y1, y2, y3⟩ := LD.out.cs
        by_cases hlt : j < k
        · obtain ⟨b0, off, rfl, hbl, hln, hc⟩ := HV.out.addr hlt
          obtain ⟨c0, c1, c2, c3, c4, c5⟩ := en_cells hc (by rw [hln]; exact hlt)
          rw [← LD.out.bl.cell (p := ⟨b0, _, none⟩) hbl] at c0 c1 c2 c3 c4 c5
          clear hc hln hbl
          obtain ⟨y, hy⟩ : ∃ y, L[j]! = y := ⟨_, rfl⟩
          rw [hy] at c0 c1 c2 c3 c4 c5
          have HY := Lib.hid hy
          clear hy
          obtain ⟨e0, ⟨e1, e2, e3⟩, e4, e5⟩ := y
          simp only at c0 c1 c2 c3 c4 c5
          go_upto_region 22 with fail
          have EB := Lib.hid (Box.new wr #[.int .i64 e0, .int .i64 e1, .int .u32 e2, .int .u32 e3, .int .i64 e4, .bool e5] 49 rfl)
          have B1 := Lib.hid (below1 wr (.cells #[.int .i64 e0, .int .i64 e1, .int .u32 e2, .int .u32 e3, .int .i64 e4, .bool e5] 49))
          replace LD := Lib.hid (LD.out.below B1.out)
          clear x0 x1 x2 y0 y1 y2 y3
          clear c0 c1 c2 c3 c4 c5 B1
          generalize wr.alloc (.cells #[.int .i64 e0, .int .i64 e1, .int .u32 e2, .int .u32 e3, .int .i64 e4, .bool e5] 49) = W3 at *
          generalize wr.heap.size = p at *
          have z0 := EB.out.cell 0
          simp at z0
          obtain ⟨⟨x0, x1, x2⟩, y0, y1, y2, y3⟩ := LD.out.cs
          go_wp2_with fail
          refine (MY.out e0 _ LD.out.g).mono ?_
          rintro e w4 ⟨rfl, hb⟩
          replace LD := Lib.hid (LD.out.below hb)
          clear hb
          cases hm : mayI T C B e0 with
          | true =>
            go_wp2_with fail
            go_roundw
            case rel =>
              refine ⟨j + 1, by omega, by go_num, fun i h1 => ?_, LD.out⟩
              by_cases e : i = j
              · subst e; rw [HY.out]; exact hm
              · exact NO.out i (by omega)
            case measure => simp [intOf]; omega
          | false =>
            go_wp2_with fail
            go_ret
            refine ⟨?_, LD.out.bl⟩
            rw [← HR.out, if_pos (mayL_no (i := j) (by rw [HN.out]; exact hlt) (by rw [HY.out]; exact hm))]
            rfl
        · obtain rfl : j = k := by omega
          rw [if_neg (by rw [mayL_yes (fun i h1 => NO.out i (by rw [HN.out] at h1; exact h1))]; simp)] at HR
          clear NO hj hlt
          by_cases hpm : pm < (j : Int)
          · rw [if_pos hpm] at HR
            go_wp2_with fail
            go_ret
            exact ⟨by rw [← HR.out]; rfl, LD.out.bl⟩
          · rw [if_neg hpm] at HR
            go_wp2_with fail
            go_ret
            exact ⟨by rw [← HR.out]; rfl, LD.out.bl⟩
end Go.Proofs.YtfegeahieajmkaaDoor
