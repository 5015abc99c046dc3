/- simulcastlaw19.laid. -/
import Derived.Test.YtfegeahieajmkaaDoorDsBack
import Derived.Test.YtfegeahieajmkaaDoorDsWant
import Derived.Deep.DeepCutAuto
namespace Go.Proofs.YtfegeahieajmkaaDoor
open Go.ChangeShapes Go.WideShapes Go.ChangeAt Go.RowKit Go.Maps
open Lay (startL checkI placeI mayI sizeI Ok starts checkI_ok)
set_option maxRecDepth 100000 in
set_option maxHeartbeats 6400000 in
theorem laid_any (T C B : Nat) (a b c : Int) (v : Value) (L : List En) (g : Nat) (M : List Wd) (w0 w : World) (hg : Lay.Gl w0) (hok : Ok T C B) (hv : ES w0 v L) (hl : L.length ≤ 1000) (ha : -9223372036854775808 ≤ a ∧ a < 9223372036854775808) (hr : RowK wdE 47 w0.heap.size w (.slice (some ⟨g, 0, none⟩) M.length M.length) M) (hM : M.length = startL T C B 7) (hb : Below w0.heap.size w0 w) : Calls Tryd.prog 21 #[.agg #[.int .i64 T, .int .i64 C, .int .i64 B], .slice (some ⟨g, 0, none⟩) M.length M.length, dV a b c v] w fun e w' => e = .returned (.bool (decide (chkD T C B (a, b, c, L) = 0))) ∧ RowK wdE 47 w0.heap.size w' (.slice (some ⟨g, 0, none⟩) M.length M.length) (laidM T C B M (a, b, c, L)) ∧ Below w0.heap.size w0 w' := by
  have HG := Lib.hid (hg.below hb)
  have HV := Lib.hid (hv.below hb)
  have R := Lib.hid hr
  have BB := Lib.hid hb
  have GB := Lib.hid (show g < w.heap.size ∧ w0.heap.size ≤ g from (hr.block (by rw [hM]; have := starts T C B; omega)).elim fun _ h => by
    have := h.1
    injection this with this
    injection this with this
    subst this
    exact ⟨h.2.2.1, h.2.1⟩)
  have CZ := Lib.hid (chkD_zero hok a b c L)
  have PR := Lib.hid (place_room hok a)
  have WA := Lib.hid (fun W h h' => words_any T C B a b c v L W h (HV.out.below h') hl ha.2)
  have WO := Lib.hid (fun W h h' hd => words_ok T C B a b c v L W h (HV.out.below h') hl ha.2 hd)
  have WN := Lib.hid (fun W h h' hd => words_no T C B a b c v L W h (HV.out.below h') hl ha.2 hd)
  have PL := Lib.hid (fun W h => Lay.place_any T C B a W h ha.2)
  unfold Lay.LV at PL
  have LM := Lib.hid (show laidM T C B M (a, b, c, L) = if chkD T C B (a, b, c, L) = 0 then layN M (wordsD (a, b, c, L)) (placeI T C B a).1.toNat (2 + 3 * L.length) else M from rfl)
  have WL := Lib.hid (wordsD_len (a, b, c, L))
  simp only at WL
  have NL := Lib.hid (fun X at_ j => layN_len M X at_ j)
  obtain ⟨a1, cp, rfl, hcap⟩ := hv.form
  obtain ⟨n, hn⟩ : ∃ n, L.length = n := ⟨_, rfl⟩
  rw [hn] at CZ WA WO WN LM WL hl ⊢
  have HN := Lib.hid hn
  obtain ⟨mn, hmn⟩ : ∃ n, M.length = n := ⟨_, rfl⟩
  rw [hmn] at R NL hM ⊢
  have s7 := Lay.startL_le T C B hok.1 7 (by omega)
  rw [← hM] at s7 PR
  obtain ⟨r, hr2⟩ : ∃ x, chkD T C B (a, b, c, L) = x := ⟨_, rfl⟩
  rw [hr2] at CZ WA WO WN LM ⊢
  obtain ⟨pa, hpa⟩ : ∃ x, (placeI T C B a).1 = x := ⟨_, rfl⟩
  obtain ⟨pm, hpm⟩ : ∃ x, (placeI T C B a).2 = x := ⟨_, rfl⟩
  have HPA := Lib.hid hpa
  have HPM := Lib.hid hpm
  rw [hpa, hpm] at PL
  rw [hpa] at LM
  rw [hpm] at CZ
  obtain ⟨Z, hZ⟩ : ∃ x, laidM T C B M (a, b, c, L) = x := ⟨_, rfl⟩
  rw [hZ] at LM ⊢
  obtain ⟨X, hX⟩ : ∃ x, wordsD (a, b, c, L) = x := ⟨_, rfl⟩
  rw [hX] at WO LM WL
  clear hr hb hg hv hn hmn hr2 hpa hpm hZ hX hok WA
  go_enter Tryd.func21, Tryd.ntmps21
  go_upto_region 1 with fail
  have B1 := Lib.hid (below1 w (.cells #[.int .i64 T, .int .i64 C, .int .i64 B] 29))
  have B2 := Lib.hid (below1 (w.alloc (.cells #[.int .i64 T, .int .i64 C, .int .i64 B] 29)) (.cells #[.int .i64 a, .int .i64 b, .int .i64 c, .slice a1 n cp] 25))
  have B3 := Lib.hid (B1.out.trans (B2.out.mono B1.out.size))
  have L3 := Lib.hid ((Box.new w #[.int .i64 T, .int .i64 C, .int .i64 B] 29 rfl).below B2.out)
  have D5 := Lib.hid (Box.new (w.alloc (.cells #[.int .i64 T, .int .i64 C, .int .i64 B] 29)) #[.int .i64 a, .int .i64 b, .int .i64 c, .slice a1 n cp] 25 (n := w.heap.size + 1) (by simp))
  replace HG := Lib.hid (HG.out.below B3.out)
  replace R := Lib.hid (R.out.below B3.out)
  replace BB := Lib.hid (BB.out.trans (B3.out.mono BB.out.size))
  obtain ⟨W, hW⟩ : ∃ W, ((w.alloc (.cells #[.int .i64 T, .int .i64 C, .int .i64 B] 29)).alloc (.cells #[.int .i64 a, .int .i64 b, .int .i64 c, .slice a1 n cp] 25)) = W := ⟨_, rfl⟩
  obtain ⟨q, hq⟩ : ∃ q, w.heap.size = q := ⟨_, rfl⟩
  have HQ := Lib.hid hq
  rw [hW] at BB L3 D5 HG R B3
  rw [hq] at L3 D5
  rw [hW, hq]
  clear hW hq B1 B2
  have x0 := L3.out.cell 0
  have x1 := L3.out.cell 1
  have x2 := L3.out.cell 2
  simp at x0 x1 x2
  have y0 := D5.out.cell 0
  have y1 := D5.out.cell 1
  have y2 := D5.out.cell 2
  have y3 := D5.out.cell 3
  simp at y0 y1 y2 y3
  go_wp2_with fail
  by_cases hr0 : r = 0
  case neg =>
    refine (WN.out _ HG.out B3.out hr0).mono ?_
    rintro e w1 ⟨rfl, hb⟩
    replace L3 := Lib.hid (L3.out.below hb)
    replace D5 := Lib.hid (D5.out.below hb)
    replace HG := Lib.hid (HG.out.below hb)
    replace R := Lib.hid (R.out.below hb)
    replace BB := Lib.hid (BB.out.trans (hb.mono BB.out.size))
    clear hb x0 x1 x2 y0 y1 y2 y3
    have x0 := L3.out.cell 0
    have x1 := L3.out.cell 1
    have x2 := L3.out.cell 2
    simp at x0 x1 x2
    have y0 := D5.out.cell 0
    have y1 := D5.out.cell 1
    have y2 := D5.out.cell 2
    have y3 := D5.out.cell 3
    simp at y0 y1 y2 y3
    go_wp2_with fail
    refine (PL.out _ HG.out).mono ?_
    rintro e w2 ⟨rfl, hb⟩
    replace L3 := Lib.hid (L3.out.below hb)
    replace D5 := Lib.hid (D5.out.below hb)
    replace HG := Lib.hid (HG.out.below hb)
    replace R := Lib.hid (R.out.below hb)
    replace BB := Lib.hid (BB.out.trans (hb.mono BB.out.size))
    clear hb x0 x1 x2 y0 y1 y2 y3
    have hr1 : (r != 0) = true := by rw [bne_iff_ne]; exact hr0
    have e := LM.out
    rw [if_neg hr0] at e
    subst e
    go_wp2_with fail
    go_ret
    exact ⟨by rw [decide_eq_false hr0]; rfl, R.out, BB.out⟩
  subst hr0
  refine (WO.out _ HG.out B3.out rfl).mono ?_
  rintro e w1 ⟨u, rfl, hu, hb⟩
  have U := Lib.hid hu
  have GU := Lib.hid (show g < W.heap.size from Nat.lt_of_lt_of_le GB.out.1 B3.out.size)
  obtain ⟨ua, uc, rfl, _⟩ := hu.form
  rw [WL.out] at hu ⊢
  clear U
  have U := Lib.hid hu
  clear hu
  replace L3 := Lib.hid (L3.out.below hb)
  replace D5 := Lib.hid (D5.out.below hb)
  replace HG := Lib.hid (HG.out.below hb)
  replace R := Lib.hid (R.out.below hb)
  replace BB := Lib.hid (BB.out.trans (hb.mono BB.out.size))
  clear hb x0 x1 x2 y0 y1 y2 y3
  have x0 := L3.out.cell 0
  have x1 := L3.out.cell 1
  have x2 := L3.out.cell 2
  simp at x0 x1 x2
  have y0 := D5.out.cell 0
  have y1 := D5.out.cell 1
  have y2 := D5.out.cell 2
  have y3 := D5.out.cell 3
  simp at y0 y1 y2 y3
  go_wp2_with fail
  refine (PL.out _ HG.out).mono ?_
  rintro e w2 ⟨rfl, hb⟩
  replace L3 := Lib.hid (L3.out.below hb)
  replace D5 := Lib.hid (D5.out.below hb)
  replace HG := Lib.hid (HG.out.below hb)
  replace R := Lib.hid (R.out.below hb)
  replace U := Lib.hid (U.out.below hb)
  replace BB := Lib.hid (BB.out.trans (hb.mono BB.out.size))
  clear hb x0 x1 x2 y0 y1 y2 y3
  obtain ⟨h1, _, _, _, _, _, _, _, h9⟩ := CZ.out.1 trivial
  rcases PR.out with hp | ⟨p, m, hp, hm, hroom, -⟩
  · exfalso; exact h1 (by rw [← HPM.out, hp])
  have e1 : pa = (p : Int) := by rw [← HPA.out, hp]
  have e2 : pm = (m : Int) := by rw [← HPM.out, hp]
  subst e1 e2
  have hpn : p + (2 + 3 * n) ≤ mn := by omega
  rw [if_pos trivial, Int.toNat_natCast] at LM
  clear hp PR CZ h1 h9 hm hroom PL WO WN
  have q1 : IntKind.i64.wrap ((p : Int) + ((2 + 3 * n : Nat) : Int)) = (p : Int) + ((2 + 3 * n : Nat) : Int) := IntWalk.i64_in _ (by omega)
  have q2 : ¬ (mn : Int) < (p : Int) + ((2 + 3 * n : Nat) : Int) := by omega
  obtain ⟨xl, hxl⟩ : ∃ x, 2 + 3 * n = x := ⟨_, rfl⟩
  rw [hxl] at q1 q2 hpn LM U WL ⊢
  clear hxl
  go_wp2_with fail
  go_loopw [11] (fun iv wr => ∃ j : Nat, j ≤ xl ∧ iv = .int .i64 j ∧ RowK wdE 47 w0.heap.size wr (.slice (some ⟨g, 0, none⟩) mn mn) (layN M X p j) ∧ RowK wdE 47 W.heap.size wr (.slice ua xl uc) X ∧ Below w0.heap.size w0 wr) (fun iv _ => xl - (intOf iv).toNat)
  case atStart => exact ⟨0, by omega, rfl, R.out, U.out, BB.out⟩
  case round =>
    obtain ⟨j, hj, rfl, h1, h2, h3⟩ := hrel
    replace R := Lib.hid h1
    replace U := Lib.hid h2
    replace BB := Lib.hid h3
    clear h1 h2 h3
    by_cases hlt : j < xl
    · obtain ⟨b0, off, rfl, hbl, hln, hc⟩ := U.out.sk.addr hlt
      obtain ⟨c0, c1, c2⟩ := wd_cells hc (by rw [hln]; exact hlt)
      clear hc hln
      have TS := Lib.hid (show layN M X p (j + 1) = (layN M X p j).set (p + j) X[j]! from rfl)
      obtain ⟨y, hy⟩ : ∃ y, X[j]! = y := ⟨_, rfl⟩
      rw [hy] at c0 c1 c2 TS
      clear hy
      obtain ⟨y0, y1, y2⟩ := y
      simp only at c0 c1 c2
      have hpj : p + j < (layN M X p j).length := by rw [NL.out]; omega
      obtain ⟨⟨d0, d1, d2⟩, f0, f1, f2⟩ := R.out.at3 (i := p + j) hpj
      have NE := Lib.hid (show some g ≠ (Value.slice (some ⟨b0, off, none⟩) xl uc).ownBlock from by
        obtain ⟨z, hz, hz2, _⟩ := U.out.block (by omega)
        injection hz with hz
        injection hz with hz _
        subst hz
        intro h
        have : g = b0 := by simpa [Value.ownBlock] using h
        have := GU.out
        omega)
      have q3 : IntKind.i64.wrap ((p : Int) + (j : Int)) = (p : Int) + (j : Int) := IntWalk.i64_in _ (by omega)
      have q4 : (p : Int) + (j : Int) < (mn : Int) := by omega
      have q5 : (0 : Int) ≤ (p : Int) + (j : Int) := by omega
      go_wp2_with fail
      go_roundw
      case rel => exact ⟨j + 1, by omega, by go_num, by rw [TS.out]; exact R.out.put3 hpj y0 y1 y2, ((U.out.otherSet NE.out _ _).otherSet NE.out _ _).otherSet NE.out _ _, R.out.put3Below BB.out (p + j) y0 y1 y2⟩
      case measure => simp [intOf]; omega
    · obtain rfl : j = xl := by omega
      go_wp2_with fail
      go_ret
      exact ⟨by first | rfl | simp, by rw [LM.out]; first | exact R.out | (rw [← hM]; exact R.out), BB.out⟩
end Go.Proofs.YtfegeahieajmkaaDoor
