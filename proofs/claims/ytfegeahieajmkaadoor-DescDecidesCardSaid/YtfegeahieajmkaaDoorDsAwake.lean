/- The example of the chapter on descriptors, run by every statement: it returns true. -/
import Derived.Test.YtfegeahieajmkaaDoorDsLog
import Derived.Test.YtfegeahieajmkaaDoorDsFirst
import Derived.Deep.DeepCutAuto
namespace Go.Proofs.YtfegeahieajmkaaDoor
open Go.ChangeShapes Go.WideShapes Go.ChangeAt Go.RowKit Go.Maps
open Lay (startL checkI placeI mayI sizeI Ok starts checkI_ok)
def exE : List En := [(24, (5, 2, 0), 9, true)]
def exX : List Wd := wordsD (1, 3, 1, exE)
def exM : List Wd := (layN (firstL 1 8 0) exX 32 5).set 24 (5, 2, 16777219)
def exN : List Wd := exM.set 32 (0, 3, 0)
theorem exC : chkD 1 8 0 (1, 3, 1, exE) = 0 := by decide +kernel
theorem exXs : exX = [(1, 3, 0), (1, 0, 0), (24, 1, 0), (5, 2, 0), (9, 0, 0)] := by decide +kernel
theorem exLM : logE 1 8 0 exM 24 = 0 ∧ logW 1 8 0 exM 24 = (9, 3, 0) := by decide +kernel
theorem exLN : logE 1 8 0 exN 24 = 0 ∧ logW 1 8 0 exN 24 = (5, 2, 0) := by decide +kernel
theorem exOk : Ok 1 8 0 := by unfold Lay.Ok Lay.In; decide +kernel
theorem exS : startL 1 8 0 7 = 136 := by decide +kernel
theorem exR : refI 1 3 = (16777219, 0) := by decide +kernel
theorem exCell : Lay.cellI 1 8 0 0 = 24 := by decide +kernel
theorem exSlot : Lay.threadI 1 8 0 4 1 = 32 := by decide +kernel
theorem exSize : sizeI 1 8 0 = 136 := by decide +kernel
theorem exOkX : ∀ x ∈ exX, OkW x := by rw [exXs]; unfold OkW; decide
theorem exOkM : ∀ x ∈ exM, OkW x := ok_set (layN_ok 32 5 (firstL_ok 1 8 0) exOkX (by rw [exXs]; decide)) 24 (by unfold OkW; decide)
theorem exOkN : ∀ x ∈ exN, OkW x := ok_set exOkM 32 (by unfold OkW; decide)
theorem exLenM (j : Nat) : (layN (firstL 1 8 0) exX 32 j).length = 136 := by rw [layN_len, firstL_len, exS]
theorem ex_first (W : World) (h : Lay.Gl W) : Calls Tryd.prog 20 #[.agg #[.int .i64 1, .int .i64 8, .int .i64 0]] W fun e w' => ∃ b, e = .returned (.slice (some ⟨b, 0, none⟩) 136 136) ∧ W.heap.size ≤ b ∧ RowK wdE 47 W.heap.size w' (.slice (some ⟨b, 0, none⟩) 136 136) (layN (firstL 1 8 0) exX 32 0) ∧ Below W.heap.size W w' := by
  have := Lay.first_ok 1 8 0 W h exOk
  rw [exS] at this
  refine this.mono ?_
  rintro e w' ⟨b, rfl, hb, hf, hl⟩
  refine ⟨b, rfl, hb, ?_, hl⟩
  have := row_of_fi hf hb (by omega)
  rw [show layN (firstL 1 8 0) exX 32 0 = (List.range 136).map fun i => (Lay.fv 1 8 0 1 0 i, 0, 0) by unfold layN firstL; rw [exS]]
  exact this
theorem ex_log (W : World) (h : Lay.Gl W) (v : Value) (M : List Wd) (hv : WS W v M) (hk : M.length = 136) (ho : ∀ x ∈ M, OkW x) (r : Wd) (hr : logE 1 8 0 M 24 = 0 ∧ logW 1 8 0 M 24 = r) : Calls Tryd.prog 31 #[.agg #[.int .i64 1, .int .i64 8, .int .i64 0], v, .int .i64 24] W fun e w' => e = .returned (.tuple #[.agg #[.int .i64 r.1, .int .u32 r.2.1, .int .u32 r.2.2], .int .i64 0]) ∧ Below W.heap.size W w' := by
  have := logical_any 1 8 0 v M 24 W h exOk hv (by omega) ho
  rw [show logE (1 : Nat) (8 : Nat) (0 : Nat) M 24 = 0 from hr.1, show logW (1 : Nat) (8 : Nat) (0 : Nat) M 24 = r from hr.2] at this
  exact this
theorem ex_words (W : World) (h : Lay.Gl W) (v : Value) (hv : ES W v exE) : Calls Tryd.prog 13 #[.agg #[.int .i64 1, .int .i64 8, .int .i64 0], .agg #[.int .i64 1, .int .i64 3, .int .i64 1, v]] W fun e w' => ∃ a c, e = .returned (.tuple #[.slice a 5 c, .int .i64 0]) ∧ WS w' (.slice a 5 c) exX ∧ Below W.heap.size W w' := by
  refine (words_ok 1 8 0 1 3 1 v exE W h hv (by decide) (by omega) exC).mono ?_
  rintro e w' ⟨u, rfl, hr, hb⟩
  obtain ⟨a, c, rfl, _⟩ := hr.form
  have hl : (wordsD (1, 3, 1, exE)).length = 5 := by decide +kernel
  have hs := hr.sk
  rw [hl] at hs ⊢
  exact ⟨a, c, rfl, hs, hb⟩
abbrev Good (w : World) (e : Ending) (w' : World) : Prop := e = .returned (.bool true) ∧ Below w.heap.size w w'
set_option maxRecDepth 100000 in
set_option maxHeartbeats 6400000 in
theorem awake_any (w : World) (hg : Lay.Gl w) : Calls Tryd.prog 11 #[] w (Good w) := by
  have HG := Lib.hid hg
  have CE := Lib.hid (fun W h => Lay.cell_any 1 8 0 0 W h)
  have SL := Lib.hid (fun W h => Lay.slot_any 1 8 0 1 W h (by omega))
  have SZ := Lib.hid (fun W h => Lay.size_any 1 8 0 W h)
  rw [exCell] at CE
  rw [exSlot] at SL
  rw [exSize] at SZ
  unfold Lay.LV at CE SL SZ
  have RF := Lib.hid (ref_any 1 3)
  rw [exR] at RF
  clear hg
  go_enter Tryd.func11, Tryd.ntmps11
  go_upto_region 2 with fail
  have BB := Lib.hid (below1 w (.cells #[.int .i64 1, .int .i64 8, .int .i64 0] 29))
  have LB := Lib.hid (Box.new w #[.int .i64 1, .int .i64 8, .int .i64 0] 29 rfl)
  replace HG := Lib.hid (HG.out.below BB.out)
  obtain ⟨W, hW⟩ : ∃ W, w.alloc (.cells #[.int .i64 1, .int .i64 8, .int .i64 0] 29) = W := ⟨_, rfl⟩
  obtain ⟨q, hq⟩ : ∃ q, w.heap.size = q := ⟨_, rfl⟩
  have HQ := Lib.hid hq
  rw [hW] at BB LB HG
  rw [hq] at LB
  rw [hW, hq]
  clear hW hq
  have x0 := LB.out.cell 0
  have x1 := LB.out.cell 1
  have x2 := LB.out.cell 2
  simp at x0 x1 x2
  go_wp2_with fail
  refine (CE.out _ HG.out).mono ?_
  rintro e w1 ⟨rfl, hb⟩
  replace LB := Lib.hid (LB.out.below hb)
  replace HG := Lib.hid (HG.out.below hb)
  replace BB := Lib.hid (BB.out.trans (hb.mono BB.out.size))
  clear hb
  clear x0 x1 x2
  go_upto_region 4 with fail
  have B1 := Lib.hid (below1 w1 (.cells #[.int .i64 24, .int .i64 5, .int .u32 2, .int .u32 0, .int .i64 9, .bool true] 49))
  have ES0 := Lib.hid (SK.ofBox (E := enE) (Box.new w1 #[.int .i64 24, .int .i64 5, .int .u32 2, .int .u32 0, .int .i64 9, .bool true] 49 rfl) (L := exE) (n := 1) (cap := 1) rfl rfl (Nat.le_refl _))
  replace LB := Lib.hid (LB.out.below B1.out)
  replace HG := Lib.hid (HG.out.below B1.out)
  replace BB := Lib.hid (BB.out.trans (B1.out.mono BB.out.size))
  clear B1
  have HS1 := Lib.hid (show (w1.alloc (.cells #[.int .i64 24, .int .i64 5, .int .u32 2, .int .u32 0, .int .i64 9, .bool true] 49)).heap.size = w1.heap.size + 1 by simp)
  generalize w1.alloc (.cells #[.int .i64 24, .int .i64 5, .int .u32 2, .int .u32 0, .int .i64 9, .bool true] 49) = W1 at *
  generalize w1.heap.size = p1 at *
  have DB := Lib.hid (Box.new W1 #[.int .i64 1, .int .i64 3, .int .i64 1, .slice (some ⟨p1, 0, none⟩) 1 1] 25 (n := p1 + 1) HS1.out.symm)
  have B1 := Lib.hid (below1 W1 (.cells #[.int .i64 1, .int .i64 3, .int .i64 1, .slice (some ⟨p1, 0, none⟩) 1 1] 25))
  replace LB := Lib.hid (LB.out.below B1.out)
  replace HG := Lib.hid (HG.out.below B1.out)
  replace BB := Lib.hid (BB.out.trans (B1.out.mono BB.out.size))
  replace ES0 := Lib.hid (ES0.out.below B1.out)
  clear B1 HS1
  generalize W1.alloc (.cells #[.int .i64 1, .int .i64 3, .int .i64 1, .slice (some ⟨p1, 0, none⟩) 1 1] 25) = W2 at *
  have x0 := LB.out.cell 0
  have x1 := LB.out.cell 1
  have x2 := LB.out.cell 2
  simp at x0 x1 x2
  have y0 := DB.out.cell 0
  have y1 := DB.out.cell 1
  have y2 := DB.out.cell 2
  have y3 := DB.out.cell 3
  simp at y0 y1 y2 y3
  go_wp2_with fail
  refine (ex_words _ HG.out _ ES0.out).mono ?_
  rintro e w2 ⟨wa, wc, rfl, hs, hb⟩
  have SW := Lib.hid hs
  replace LB := Lib.hid (LB.out.below hb)
  replace HG := Lib.hid (HG.out.below hb)
  replace BB := Lib.hid (BB.out.trans (hb.mono BB.out.size))
  clear hb hs y0 y1 y2 y3 DB ES0
  clear x0 x1 x2
  have x0 := LB.out.cell 0
  have x1 := LB.out.cell 1
  have x2 := LB.out.cell 2
  simp at x0 x1 x2
  go_wp2_with fail
  refine (RF.out _).mono ?_
  rintro e w3 ⟨rfl, hw⟩
  obtain rfl := hw
  have L3 := LB
  have G3 := HG
  have B3 := BB
  go_wp2_with fail
  refine (ex_first _ HG.out).mono ?_
  rintro e w4 ⟨g, rfl, hg, hr, hb⟩
  have R := Lib.hid hr
  have BW := Lib.hid hb
  have GG := Lib.hid hg
  replace LB := Lib.hid (LB.out.below hb)
  replace HG := Lib.hid (HG.out.below hb)
  replace BB := Lib.hid (BB.out.trans (hb.mono BB.out.size))
  replace SW := Lib.hid SW.out
  clear hb hr hg
  clear x0 x1 x2
  have x0 := LB.out.cell 0
  have x1 := LB.out.cell 1
  have x2 := LB.out.cell 2
  simp at x0 x1 x2
  go_wp2_with fail
  refine (SL.out _ HG.out).mono ?_
  rintro e w5 ⟨rfl, hb⟩
  replace LB := Lib.hid (LB.out.below hb)
  replace HG := Lib.hid (HG.out.below hb)
  replace BB := Lib.hid (BB.out.trans (hb.mono BB.out.size))
  replace R := Lib.hid (R.out.below hb)
  replace BW := Lib.hid (BW.out.trans (hb.mono BW.out.size))
  clear hb
  clear x0 x1 x2
  have x0 := LB.out.cell 0
  have x1 := LB.out.cell 1
  have x2 := LB.out.cell 2
  simp at x0 x1 x2
  go_wp2_with fail
  refine (SZ.out _ HG.out).mono ?_
  rintro e w6 ⟨rfl, hb⟩
  replace LB := Lib.hid (LB.out.below hb)
  replace HG := Lib.hid (HG.out.below hb)
  replace BB := Lib.hid (BB.out.trans (hb.mono BB.out.size))
  replace R := Lib.hid (R.out.below hb)
  replace BW := Lib.hid (BW.out.trans (hb.mono BW.out.size))
  clear hb
  clear x0 x1 x2
  go_wp2_with fail
  go_loopw [10] (fun iv wr => ∃ j : Nat, j ≤ 5 ∧ iv = .int .i64 j ∧ RowK wdE 47 w3.heap.size wr (.slice (some ⟨g, 0, none⟩) 136 136) (layN (firstL 1 8 0) exX 32 j) ∧ Below w3.heap.size w3 wr) (fun iv _ => 5 - (intOf iv).toNat)
  case atStart => exact ⟨0, by omega, rfl, R.out, BW.out⟩
  case round =>
    obtain ⟨j, hj, rfl, hr, hb⟩ := hrel
    replace R := Lib.hid hr
    replace BW := Lib.hid hb
    clear hr hb
    by_cases hlt : j < 5
    · obtain ⟨b, off, rfl, hbl, hln, hc⟩ := SW.out.addr hlt
      obtain ⟨c0, c1, c2⟩ := wd_cells hc (by rw [hln]; exact hlt)
      rw [← BW.out.cell (p := ⟨b, _, none⟩) hbl] at c0 c1 c2
      clear hc hln
      have TS := Lib.hid (show layN (firstL 1 8 0) exX 32 (j + 1) = (layN (firstL 1 8 0) exX 32 j).set (32 + j) exX[j]! from rfl)
      obtain ⟨y, hy⟩ : ∃ y, exX[j]! = y := ⟨_, rfl⟩
      rw [hy] at c0 c1 c2 TS
      clear hy
      obtain ⟨y0, y1, y2⟩ := y
      simp only at c0 c1 c2
      obtain ⟨⟨d0, d1, d2⟩, f0, f1, f2⟩ := R.out.at3 (i := 32 + j) (by rw [exLenM]; omega)
      have q1 : IntKind.i64.wrap (32 + (j : Int)) = 32 + (j : Int) := IntWalk.i64_in _ (by omega)
      have q2 : (0 : Int) ≤ 32 + (j : Int) := by omega
      have q3 : 32 + (j : Int) < 136 := by omega
      go_wp2_with fail
      go_roundw
      case rel => exact ⟨j + 1, by omega, by go_num, by rw [TS.out]; exact R.out.put3 (by rw [exLenM]; omega) y0 y1 y2, R.out.put3Below BW.out (32 + j) y0 y1 y2⟩
      case measure => simp [intOf]; omega
    · obtain rfl : j = 5 := by omega
      obtain ⟨⟨d0, d1, d2⟩, f0, f1, f2⟩ := R.out.at3 (i := 24) (by rw [exLenM]; omega)
      go_upto_region 15 with fail
      have R1 := Lib.hid (R.out.put3 (i := 24) (by rw [exLenM]; omega) 5 2 16777219)
      replace BW := Lib.hid (R.out.put3Below BW.out 24 5 2 16777219)
      rw [show (layN (firstL 1 8 0) exX 32 5).set 24 (5, 2, 16777219) = exM from rfl] at R1
      clear d0 d1 d2 f0 f1 f2 R
      simp only [Nat.reduceMul, Nat.reduceAdd] at R1 BW
      generalize (((wr.setCell ⟨g, 72, none⟩ (.int .i64 5)).setCell ⟨g, 73, none⟩ (.int .u32 2)).setCell ⟨g, 74, none⟩ (.int .u32 16777219)) = W5 at *
      have LB := Lib.hid (L3.out.below BW.out)
      have HG := Lib.hid (G3.out.below BW.out)
      have x0 := LB.out.cell 0
      have x1 := LB.out.cell 1
      have x2 := LB.out.cell 2
      simp at x0 x1 x2
      go_wp2_with fail
      refine (ex_log _ HG.out _ exM R1.out.sk (by unfold exM; rw [List.length_set, exLenM]) exOkM _ exLM).mono ?_
      rintro e w7 ⟨rfl, hb⟩
      replace R1 := Lib.hid (R1.out.below hb)
      replace BW := Lib.hid (BW.out.trans (hb.mono BW.out.size))
      clear hb x0 x1 x2 LB HG
      go_upto_region 16 with fail
      have X1 := Lib.hid (Box.new w7 #[.int .i64 9, .int .u32 3, .int .u32 0] 47 rfl)
      have GX := Lib.hid (show g < w7.heap.size from (R1.out.block (by omega)).elim fun _ h => by
        have := h.1
        injection this with this
        injection this with this
        subst this
        exact h.2.2.1)
      have B8 := Lib.hid (below1 w7 (.cells #[.int .i64 9, .int .u32 3, .int .u32 0] 47))
      replace R1 := Lib.hid (R1.out.below B8.out)
      replace BW := Lib.hid (BW.out.trans (B8.out.mono BW.out.size))
      clear B8
      generalize w7.alloc (.cells #[.int .i64 9, .int .u32 3, .int .u32 0] 47) = W8 at *
      generalize w7.heap.size = p8 at *
      have ST := Lib.hid (fun W => status_any 0 3 W)
      unfold wdV at ST
      rw [show IntKind.u32.wrap 3 = 3 by decide] at ST
      simp only at ST
      go_wp2_with fail
      refine (ST.out _).mono ?_
      rintro e w9 ⟨rfl, hb⟩
      replace R1 := Lib.hid (R1.out.below hb)
      replace X1 := Lib.hid (X1.out.below hb)
      replace BW := Lib.hid (BW.out.trans (hb.mono BW.out.size))
      clear hb ST
      have hM : 32 < exM.length := by unfold exM; rw [List.length_set, exLenM]; omega
      obtain ⟨⟨d0, d1, d2⟩, f0, f1, f2⟩ := R1.out.at3 (i := 32) hM
      simp only [Nat.reduceMul, Nat.reduceAdd] at d0 d1 d2 f0 f1 f2
      go_upto_region 17 with fail
      have R2 := Lib.hid (R1.out.put3 (i := 32) hM 0 3 0)
      replace BW := Lib.hid (R1.out.put3Below BW.out 32 0 3 0)
      rw [show exM.set 32 (0, 3, 0) = exN from rfl] at R2
      simp only [Nat.reduceMul, Nat.reduceAdd] at R2 BW
      have X2 : Hid (Box (((w9.setCell ⟨g, 96, none⟩ (.int .i64 0)).setCell ⟨g, 97, none⟩ (.int .u32 3)).setCell ⟨g, 98, none⟩ (.int .u32 0)) p8 #[.int .i64 9, .int .u32 3, .int .u32 0] 47) := Lib.hid (((X1.out.other (by have := GX.out; omega) _ _).other (by have := GX.out; omega) _ _).other (by have := GX.out; omega) _ _)
      clear d0 d1 d2 f0 f1 f2 R1 X1
      generalize (((w9.setCell ⟨g, 96, none⟩ (.int .i64 0)).setCell ⟨g, 97, none⟩ (.int .u32 3)).setCell ⟨g, 98, none⟩ (.int .u32 0)) = W10 at *
      have LB := Lib.hid (L3.out.below BW.out)
      have HG := Lib.hid (G3.out.below BW.out)
      have x0 := LB.out.cell 0
      have x1 := LB.out.cell 1
      have x2 := LB.out.cell 2
      simp at x0 x1 x2
      go_wp2_with fail
      refine (ex_log _ HG.out _ exN R2.out.sk (by unfold exN exM; rw [List.length_set, List.length_set, exLenM]) exOkN _ exLN).mono ?_
      rintro e w11 ⟨rfl, hb⟩
      replace X2 := Lib.hid (X2.out.below hb)
      replace BW := Lib.hid (BW.out.trans (hb.mono BW.out.size))
      clear hb x0 x1 x2 LB HG R2
      go_upto_region 18 with fail
      have X3 := Lib.hid (Box.new w11 #[.int .i64 5, .int .u32 2, .int .u32 0] 47 rfl)
      have B8 := Lib.hid (below1 w11 (.cells #[.int .i64 5, .int .u32 2, .int .u32 0] 47))
      replace X2 := Lib.hid (X2.out.below B8.out)
      replace BW := Lib.hid (BW.out.trans (B8.out.mono BW.out.size))
      clear B8
      generalize w11.alloc (.cells #[.int .i64 5, .int .u32 2, .int .u32 0] 47) = W12 at *
      generalize w11.heap.size = p12 at *
      have x0 := X2.out.cell 0
      have x1 := X2.out.cell 1
      have x2 := X2.out.cell 2
      simp at x0 x1 x2
      have y0 := X3.out.cell 0
      have y1 := X3.out.cell 1
      have y2 := X3.out.cell 2
      simp at y0 y1 y2
      have SW2 := Lib.hid (SW.out.below BW.out)
      obtain ⟨b, off, rfl, hbl, hln, hc⟩ := SW2.out.addr (k := 0) (by omega)
      obtain ⟨c0, c1, c2⟩ := wd_cells hc (k := 0) (by rw [hln]; omega)
      obtain ⟨d0, d1, d2⟩ := wd_cells hc (k := 2) (by rw [hln]; omega)
      obtain ⟨e0, e1, e2⟩ := wd_cells hc (k := 4) (by rw [hln]; omega)
      rw [show exX[0]! = (1, 3, 0) by rw [exXs]; rfl] at c0 c1 c2
      rw [show exX[2]! = (24, 1, 0) by rw [exXs]; rfl] at d0 d1 d2
      rw [show exX[4]! = (9, 0, 0) by rw [exXs]; rfl] at e0 e1 e2
      simp only [Nat.reduceMul, Nat.add_zero] at c0 c1 c2 d0 d1 d2 e0 e1 e2
      have qE := eqlW
      have gP := guardW
      have t1 : eqW (1, 3, 0) (1, 3, 0) = true := rfl
      have t2 : eqW (24, 1, 0) (24, 1, 0) = true := rfl
      have t3 : eqW (9, 0, 0) (9, 0, 0) = true := rfl
      have t4 : eqW (9, 3, 0) (9, 3, 0) = true := rfl
      have t5 : eqW (5, 2, 0) (5, 2, 0) = true := rfl
      go_wp2_with fail
      go_ret
      exact ⟨rfl, B3.out.trans (BW.out.mono B3.out.size)⟩
end Go.Proofs.YtfegeahieajmkaaDoor
