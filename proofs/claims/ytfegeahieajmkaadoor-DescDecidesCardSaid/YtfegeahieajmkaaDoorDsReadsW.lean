/- The walk through DescReads. -/
import Derived.Test.YtfegeahieajmkaaDoorDsApartW
import Derived.Test.YtfegeahieajmkaaDoorDsRRead
import Derived.Test.YtfegeahieajmkaaDoorDsMem
import Derived.Test.YtfegeahieajmkaaDoorDsLog
import Derived.Deep.DeepCutAuto
import Derived.Shelf.RegionOpenPlain
namespace Go.Proofs.YtfegeahieajmkaaDoor
open Go.ChangeShapes Go.WideShapes Go.ChangeAt Go.RowKit Go.Maps
open Lay (startL checkI placeI mayI sizeI Ok starts checkI_ok)
theorem laid_back {T C B : Nat} (h : Ok T C B) {a b c : Int} {L : List En} {M : List Wd} (hM : M.length = startL T C B 7) (hd : chkD T C B (a, b, c, L) = 0) : rdE T C B (laidM T C B M (a, b, c, L)) a = 0 ∧ rdD T C B (laidM T C B M (a, b, c, L)) a = (a, b, c, L) := by
  obtain ⟨p, m, hp, hl, hm, hr, ht⟩ := laid_at h hd hM
  refine read_back h hd (by rw [laidM_len]; omega) (fun i hi => ?_)
  rw [hp]
  simp only [Int.toNat_natCast]
  rw [ht _ (by omega), if_pos (by omega)]
  congr 1; omega
theorem ReadOut.short {T C B : Nat} {M : List Wd} {who : Int} {w w' : World} {e : Ending} (h : ReadOut T C B M who w e w') (hE : rdE T C B M who = 1) : ∃ x cp, e = .returned (.tuple #[.agg #[.int .i64 0, .int .i64 0, .int .i64 0, .slice x 0 cp], .int .i64 1]) ∧ Below w.heap.size w w' := by
  obtain ⟨⟨u, rfl, hu⟩, hb⟩ := h
  rw [rdD_no hE (by decide)] at *
  rw [hE]
  obtain ⟨a1, cp, rfl, _⟩ := hu.form
  exact ⟨a1, cp, rfl, hb⟩
set_option maxRecDepth 100000 in
set_option maxHeartbeats 12800000 in
theorem reads_walk (qa qb qc : Nat) (a b c : Int) (v : Value) (L : List En) (vp : Value) (P : List (Int × Wd)) (w : World) (hg : Lay.Gl w) (h1 : qa < 256) (h2 : qb < 256) (h3 : qc < 256) (ha : -9223372036854775808 ≤ a ∧ a < 9223372036854775808) (_ : -9223372036854775808 ≤ b ∧ b < 9223372036854775808) (hc : -9223372036854775808 ≤ c ∧ c < 9223372036854775808) (hv : ES w v L) (hL : ∀ e ∈ L, OkE e) (_ : L.length ≤ maxLen) (hp : PS w vp P) (hP : ∀ e ∈ P, OkP e) (hPl : P.length ≤ maxLen) : Calls Tryd.prog 4 #[.agg #[.int .u8 qa, .int .u8 qb, .int .u8 qc], .agg #[.int .i64 a, .int .i64 b, .int .i64 c, v], vp] w (Good w) := by
  have HG := Lib.hid hg
  have HGW := Lib.hid hg
  have HV := Lib.hid hv
  have HL := Lib.hid hL
  have HC := Lib.hid hc
  have HP := Lib.hid hp
  have HPO := Lib.hid hP
  have GR := Lib.hid (fun W h => great_any v L W (hv.below h))
  have OK := Lib.hid (plan_ok (a := qa) (b := qb) (c := qc))
  have PA := Lib.hid (fun W h => plan_any qa qb qc W h h1 h2 h3)
  obtain ⟨T, hT⟩ : ∃ x, 1 + qa % 4 = x := ⟨_, rfl⟩
  obtain ⟨C, hC⟩ : ∃ x, 8 + qb % 40 = x := ⟨_, rfl⟩
  obtain ⟨B, hB⟩ : ∃ x, qc % 12 = x := ⟨_, rfl⟩
  rw [hT, hC, hB] at OK PA
  clear hT hC hB
  obtain ⟨a1, cp, rfl, hcap⟩ := hv.form
  obtain ⟨pa1, pcp, rfl, hpcap⟩ := hp.form
  obtain ⟨n, hn⟩ : ∃ n, L.length = n := ⟨_, rfl⟩
  obtain ⟨kp, hkp⟩ : ∃ n, P.length = n := ⟨_, rfl⟩
  rw [hn] at HV hcap GR ⊢
  rw [hkp] at HP hpcap hPl ⊢
  have HN := Lib.hid hn
  have HK := Lib.hid hkp
  have HPL := Lib.hid hPl
  clear hv hg hn hL hc hp hP hkp hPl
  go_enter Tryd.func4, Tryd.ntmps4
  go_upto_region 1 with fail
  have B1 := Lib.hid (below1 w (.cells #[.int .u8 qa, .int .u8 qb, .int .u8 qc] 22))
  have B2 := Lib.hid (below1 (w.alloc (.cells #[.int .u8 qa, .int .u8 qb, .int .u8 qc] 22)) (.cells #[.int .i64 a, .int .i64 b, .int .i64 c, .slice a1 n cp] 25))
  have BB := Lib.hid (B1.out.trans (B2.out.mono B1.out.size))
  have QQ := Lib.hid ((Box.new w #[.int .u8 qa, .int .u8 qb, .int .u8 qc] 22 rfl).below B2.out)
  have D1 := Lib.hid (Box.new (w.alloc (.cells #[.int .u8 qa, .int .u8 qb, .int .u8 qc] 22)) #[.int .i64 a, .int .i64 b, .int .i64 c, .slice a1 n cp] 25 (n := w.heap.size + 1) (by simp))
  replace HG := Lib.hid (HG.out.below BB.out)
  obtain ⟨W, hW⟩ : ∃ W, ((w.alloc (.cells #[.int .u8 qa, .int .u8 qb, .int .u8 qc] 22)).alloc (.cells #[.int .i64 a, .int .i64 b, .int .i64 c, .slice a1 n cp] 25)) = W := ⟨_, rfl⟩
  obtain ⟨q, hq⟩ : ∃ q, w.heap.size = q := ⟨_, rfl⟩
  rw [hW] at BB QQ D1 HG
  rw [hq] at QQ D1
  rw [hW, hq]
  clear hW hq B1 B2
  have y0 := D1.out.cell 0
  have y1 := D1.out.cell 1
  have y2 := D1.out.cell 2
  have y3 := D1.out.cell 3
  simp at y0 y1 y2 y3
  go_wp2_with fail
  refine (GR.out _ BB.out).mono ?_
  rintro e w1 ⟨rfl, hw⟩
  obtain rfl := hw
  clear GR
  by_cases h40 : 40 < n
  · rw [decide_eq_true h40]
    go_wp2_with fail
    refine (awake_any _ HG.out).mono ?_
    rintro e w9 ⟨rfl, hb⟩
    replace BB := Lib.hid (BB.out.trans (hb.mono BB.out.size))
    clear hb
    go_wp2_with fail
    go_ret
    exact ⟨rfl, BB.out⟩
  rw [decide_eq_false h40]
  by_cases h41 : 40 < kp
  · have h42 : (40 : Int) < (kp : Int) := by omega
    go_wp2_with fail
    refine (awake_any _ HG.out).mono ?_
    rintro e w9 ⟨rfl, hb⟩
    replace BB := Lib.hid (BB.out.trans (hb.mono BB.out.size))
    clear hb
    go_wp2_with fail
    go_ret
    exact ⟨rfl, BB.out⟩
  have h42 : ¬ (40 : Int) < (kp : Int) := by omega
  have hl : L.length ≤ 1000 := by rw [HN.out]; omega
  have h4 : n ≤ 40 := by omega
  have h4' : kp ≤ 40 := by omega
  have x0 := QQ.out.cell 0
  have x1 := QQ.out.cell 1
  have x2 := QQ.out.cell 2
  simp at x0 x1 x2
  go_wp2_with fail
  clear h40 h41 h42 y0 y1 y2 y3
  refine (PA.out _ HG.out).mono ?_
  rintro e w2 ⟨⟨u, rfl, hu⟩, hb⟩
  replace D1 := Lib.hid (D1.out.below hb)
  replace HG := Lib.hid (HG.out.below hb)
  replace BB := Lib.hid (BB.out.trans (hb.mono BB.out.size))
  clear hb x0 x1 x2 QQ PA
  have N7 := OK.out.2
  have HU := Lib.hid hu
  obtain ⟨ua, uc, rfl, _⟩ := hu.form
  clear hu
  have ML := Lib.hid (mayBs_len T C B (startL T C B 7))
  rw [ML.out]
  rw [ML.out] at HU
  clear ML
  obtain ⟨pn, hpn⟩ : ∃ n, startL T C B 7 = n := ⟨_, rfl⟩
  obtain ⟨s4, hs4⟩ : ∃ n, startL T C B 4 = n := ⟨_, rfl⟩
  obtain ⟨rm, hrm⟩ : ∃ n, roomsI T C B = n := ⟨_, rfl⟩
  have HPN := Lib.hid hpn
  have HS4 := Lib.hid hs4
  have HRM := Lib.hid hrm
  have FL := Lib.hid (firstL_len T C B)
  have FI := Lib.hid (fun W h => Lay.first_ok T C B W h OK.out)
  have FO := Lib.hid (firstL_ok T C B)
  unfold PlV
  rw [hpn] at FI FL N7 HU ⊢
  rw [hs4, hrm]
  clear hpn hs4 hrm
  go_upto_region 4 with fail
  have L7 := Lib.hid (Box.new w2 #[.int .i64 T, .int .i64 C, .int .i64 B] 29 rfl)
  have P8 := Lib.hid (Box.new (w2.alloc (.cells #[.int .i64 T, .int .i64 C, .int .i64 B] 29)) #[.int .i64 T, .int .i64 B, .int .i64 s4, .int .i64 rm, .int .i64 104, .int .i64 32, .slice ua pn uc, .int .i64 pn] 32 (n := w2.heap.size + 1) (by simp))
  have B1 := Lib.hid (below1 w2 (.cells #[.int .i64 T, .int .i64 C, .int .i64 B] 29))
  have B2 := Lib.hid (below1 (w2.alloc (.cells #[.int .i64 T, .int .i64 C, .int .i64 B] 29)) (.cells #[.int .i64 T, .int .i64 B, .int .i64 s4, .int .i64 rm, .int .i64 104, .int .i64 32, .slice ua pn uc, .int .i64 pn] 32))
  replace L7 := Lib.hid (L7.out.below B2.out)
  replace D1 := Lib.hid (D1.out.below B1.out)
  replace HG := Lib.hid (HG.out.below B1.out)
  replace HU := Lib.hid (HU.out.below B1.out)
  replace BB := Lib.hid (BB.out.trans (B1.out.mono BB.out.size))
  replace D1 := Lib.hid (D1.out.below B2.out)
  replace HG := Lib.hid (HG.out.below B2.out)
  replace HU := Lib.hid (HU.out.below B2.out)
  replace BB := Lib.hid (BB.out.trans (B2.out.mono BB.out.size))
  clear B1 B2
  generalize (w2.alloc (.cells #[.int .i64 T, .int .i64 C, .int .i64 B] 29)).alloc (.cells #[.int .i64 T, .int .i64 B, .int .i64 s4, .int .i64 rm, .int .i64 104, .int .i64 32, .slice ua pn uc, .int .i64 pn] 32) = W3 at *
  generalize w2.heap.size = p7 at *
  have x0 := L7.out.cell 0
  have x1 := L7.out.cell 1
  have x2 := L7.out.cell 2
  simp at x0 x1 x2
  go_wp2_with fail
  have G0 := HG
  have B0 := BB
  have D10 := D1
  have L70 := L7
  have P80 := P8
  have U0 := HU
  have LA := Lib.hid (fun g M W h1 h2 h3 => laid_any T C B a b c _ L g M W3 W G0.out OK.out (HV.out.below B0.out) hl ha h1 (by rw [HPN.out]; exact h2) h3)
  refine (FI.out _ HG.out).mono ?_
  rintro e w4 ⟨g, rfl, hgg, hr, hb⟩
  have R := Lib.hid (row_of_fi hr hgg (by omega))
  rw [show ((List.range pn).map fun i => (Lay.fv T C B T B i, (0 : Int), (0 : Int))) = firstL T C B by unfold firstL; rw [HPN.out]] at R
  clear x0 x1 x2 D1 L7 P8 HG BB HU
  have BW := Lib.hid hb
  have D1 := Lib.hid (D10.out.below hb)
  have L7 := Lib.hid (L70.out.below hb)
  have P8 := Lib.hid (P80.out.below hb)
  have HG := Lib.hid (G0.out.below hb)
  have BB := Lib.hid (B0.out.trans (hb.mono B0.out.size))
  clear hb hr FI
  obtain ⟨M, hM⟩ : ∃ M, firstL T C B = M := ⟨_, rfl⟩
  rw [hM] at R FL FO
  clear hM
  have y0 := D1.out.cell 0
  have y1 := D1.out.cell 1
  have y2 := D1.out.cell 2
  have y3 := D1.out.cell 3
  simp at y0 y1 y2 y3
  have x0 := L7.out.cell 0
  have x1 := L7.out.cell 1
  have x2 := L7.out.cell 2
  simp at x0 x1 x2
  go_wp2_with fail
  have LX := LA.out g M w4 (by rw [FL.out]; exact R.out) FL.out BW.out
  rw [FL.out] at LX
  refine LX.mono ?_
  rintro e w5 ⟨rfl, hr, hb⟩
  clear LX LA x0 x1 x2 y0 y1 y2 y3
  clear D1 L7 P8 HG BB BW R
  have BW := Lib.hid hb
  have D1 := Lib.hid (D10.out.below hb)
  have L7 := Lib.hid (L70.out.below hb)
  have P8 := Lib.hid (P80.out.below hb)
  have HG := Lib.hid (G0.out.below hb)
  have BB := Lib.hid (B0.out.trans (hb.mono B0.out.size))
  have R := Lib.hid hr
  clear hb hr
  obtain ⟨M1, hM1⟩ : ∃ X, laidM T C B M (a, b, c, L) = X := ⟨_, rfl⟩
  have FM := Lib.hid (show M1.length = pn by rw [← hM1, laidM_len, FL.out])
  have FQ := Lib.hid (show ∀ x ∈ M1, OkW x by rw [← hM1]; exact laidM_ok (T := T) (C := C) (B := B) (a := a) (b := b) FO.out HC.out HL.out hl)
  have LBK := Lib.hid (show chkD T C B (a, b, c, L) = 0 → rdE T C B M1 a = 0 ∧ rdD T C B M1 a = (a, b, c, L) by rw [← hM1]; exact fun h => laid_back OK.out (by rw [FL.out, HPN.out]) h)
  rw [hM1] at R
  clear hM1 FL FO
  obtain ⟨bb, hbb⟩ : ∃ x, decide (chkD T C B (a, b, c, L) = 0) = x := ⟨_, rfl⟩
  have HBB := Lib.hid hbb
  rw [hbb]
  clear hbb
  go_upto_if 47 with fail
  go_cut [] (fun wx => RowK wdE 47 W3.heap.size wx (.slice (some ⟨g, 0, none⟩) pn pn) M1 ∧ Below W3.heap.size W3 wx)
  case first =>
    cases bb with
    | false =>
      go_wp2_with fail
      go_meet
      case rel => exact ⟨R.out, BW.out⟩
    | true =>
      obtain ⟨sE, sD⟩ := LBK.out (of_decide_eq_true HBB.out)
      have RA := Lib.hid (fun W h (h' : Below w5.heap.size w5 W) => (read_any T C B _ M1 a W h OK.out (R.out.below h').sk (by rw [FM.out]; omega) FQ.out ha.2).mono (fun e w' h => h.back sE sD))
      rw [HN.out] at RA
      have SA := Lib.hid (fun v W hv h => rsame_any v _ L L W hv (HV.out.below h) (by omega))
      rw [decide_eq_true (show L = L from rfl)] at SA
      clear sE sD LBK HBB
      have y0 := D1.out.cell 0
      have y1 := D1.out.cell 1
      have y2 := D1.out.cell 2
      have y3 := D1.out.cell 3
      simp at y0 y1 y2 y3
      have x0 := L7.out.cell 0
      have x1 := L7.out.cell 1
      have x2 := L7.out.cell 2
      simp at x0 x1 x2
      go_wp2_with fail
      refine (RA.out _ HG.out (Below.refl _ _)).mono ?_
      rintro e w6 ⟨xa, xc, rfl, hx, hb⟩
      have HX := Lib.hid hx
      clear x0 x1 x2 y0 y1 y2 y3 RA
      replace D1 := Lib.hid (D1.out.below hb)
      replace R := Lib.hid (R.out.below hb)
      replace BB := Lib.hid (BB.out.trans (hb.mono BB.out.size))
      replace BW := Lib.hid (BW.out.trans (hb.mono BW.out.size))
      clear hb hx
      go_upto_region 9 with fail
      have X11 := Lib.hid (Box.new w6 #[.int .i64 a, .int .i64 b, .int .i64 c, .slice xa n xc] 25 rfl)
      have B1 := Lib.hid (below1 w6 (.cells #[.int .i64 a, .int .i64 b, .int .i64 c, .slice xa n xc] 25))
      replace D1 := Lib.hid (D1.out.below B1.out)
      replace HX := Lib.hid (HX.out.below B1.out)
      replace R := Lib.hid (R.out.below B1.out)
      replace BB := Lib.hid (BB.out.trans (B1.out.mono BB.out.size))
      replace BW := Lib.hid (BW.out.trans (B1.out.mono BW.out.size))
      clear B1
      generalize w6.alloc (.cells #[.int .i64 a, .int .i64 b, .int .i64 c, .slice xa n xc] 25) = W7 at *
      generalize w6.heap.size = p11 at *
      have y0 := D1.out.cell 0
      have y1 := D1.out.cell 1
      have y2 := D1.out.cell 2
      have y3 := D1.out.cell 3
      simp at y0 y1 y2 y3
      have k0 := X11.out.cell 0
      have k1 := X11.out.cell 1
      have k2 := X11.out.cell 2
      have k3 := X11.out.cell 3
      simp at k0 k1 k2 k3
      go_wp2_with fail
      refine (SA.out _ _ HX.out BB.out).mono ?_
      rintro e w7 ⟨rfl, hb⟩
      replace R := Lib.hid (R.out.below hb)
      replace BB := Lib.hid (BB.out.trans (hb.mono BB.out.size))
      replace BW := Lib.hid (BW.out.trans (hb.mono BW.out.size))
      clear hb SA y0 y1 y2 y3 k0 k1 k2 k3 D1 X11 HX
      go_wp2_with fail
      go_meet
      case rel => exact ⟨R.out, BW.out⟩
  case rest =>
  obtain ⟨h1, h2⟩ := hcut
  clear R BW D1 L7 P8 HG BB LBK HBB HL HC HV
  have R := Lib.hid h1
  have BW := Lib.hid h2
  have D1 := Lib.hid (D10.out.below h2)
  have L7 := Lib.hid (L70.out.below h2)
  have P8 := Lib.hid (P80.out.below h2)
  have HG := Lib.hid (G0.out.below h2)
  have BB := Lib.hid (B0.out.trans (h2.mono B0.out.size))
  clear h1 h2
  have PR := Lib.hid (place_room OK.out a)
  obtain ⟨pa, hpa⟩ : ∃ x, (placeI T C B a).1 = x := ⟨_, rfl⟩
  obtain ⟨pm, hpm⟩ : ∃ x, (placeI T C B a).2 = x := ⟨_, rfl⟩
  have HPA := Lib.hid hpa
  have RP := Lib.hid (fun W (h : Below W3.heap.size W3 W) => rplace_any T C B (.slice ua pn uc) a W OK.out (by rw [HPN.out]; exact U0.out.below h) ha)
  unfold PlV at RP
  rw [HPN.out, HS4.out, HRM.out] at RP
  rw [hpa, hpm] at RP
  clear hpa hpm
  have F0 := Lib.hid (putM_zero pa M1 P)
  have F1 := Lib.hid (fun j (h : pa < 0) => putM_no h M1 P j)
  have F2 := Lib.hid (fun (p j : Nat) (h : pa = p) => (by subst h; exact putM_yes p M1 P j : putM pa M1 P (j + 1) = (putM pa M1 P j).set (p + (P[j]!).1.toNat % 12) (P[j]!).2))
  have F3 := Lib.hid (fun j => (putM_len pa M1 P j).trans FM.out)
  have F4 := Lib.hid (fun j (h : j ≤ kp) => putM_ok pa FQ.out HPO.out (k := j) (by rw [HK.out]; exact h))
  obtain ⟨F, hF⟩ : ∃ F : Nat → List Wd, (fun k => putM pa M1 P k) = F := ⟨_, rfl⟩
  have hF' : ∀ k, putM pa M1 P k = F k := fun k => by rw [← hF]
  simp only [hF'] at F0 F1 F2 F3 F4
  clear hF hF' FM FQ
  go_wp2_with fail
  go_loopw [13] (fun iv wr => ∃ j : Nat, j ≤ kp ∧ iv = .int .i64 j ∧ RowK wdE 47 W3.heap.size wr (.slice (some ⟨g, 0, none⟩) pn pn) (F j) ∧ Below W3.heap.size W3 wr) (fun iv _ => kp - (intOf iv).toNat)
  case atStart => exact ⟨0, by omega, rfl, by rw [F0.out]; exact R.out, BW.out⟩
  case round =>
    obtain ⟨j, hj, rfl, h1, h2⟩ := hrel
    clear R D1 L7 P8 HG BB BW
    have R := Lib.hid h1
    have BW := Lib.hid h2
    have D1 := Lib.hid (D10.out.below h2)
    have L7 := Lib.hid (L70.out.below h2)
    have P8 := Lib.hid (P80.out.below h2)
    have HG := Lib.hid (G0.out.below h2)
    have BB := Lib.hid (B0.out.trans (h2.mono B0.out.size))
    clear h1 h2
    by_cases hlt : j < kp
    · have FX := Lib.hid (F1.out j)
      have FY := Lib.hid (fun p h => F2.out p j h)
      obtain ⟨pb, poff, rfl, hpb, hpl, hc⟩ := HP.out.addr hlt
      have CC := Lib.hid (fun W' (h : Below w.heap.size w W') => (show W'.cell? ⟨pb, poff + j * 4, none⟩ = some (.int .u16 (P[j]!).1) ∧ W'.cell? ⟨pb, poff + j * 4 + 1, none⟩ = some (.int .i64 (P[j]!).2.1) ∧ W'.cell? ⟨pb, poff + j * 4 + 2, none⟩ = some (.int .u32 (P[j]!).2.2.1) ∧ W'.cell? ⟨pb, poff + j * 4 + 3, none⟩ = some (.int .u32 (P[j]!).2.2.2) from ⟨(h.cell hpb).trans (pt_cells hc (by rw [hpl]; exact hlt)).1, (h.cell hpb).trans (pt_cells hc (by rw [hpl]; exact hlt)).2.1, (h.cell hpb).trans (pt_cells hc (by rw [hpl]; exact hlt)).2.2.1, (h.cell hpb).trans (pt_cells hc (by rw [hpl]; exact hlt)).2.2.2⟩))
      have OP := Lib.hid (HPO.out _ (mem_at (L := P) (k := j) (by rw [HK.out]; exact hlt)))
      clear hc hpl hpb
      obtain ⟨z, hz⟩ : ∃ z, P[j]! = z := ⟨_, rfl⟩
      rw [hz] at CC OP FY
      clear hz
      obtain ⟨o, z0, z1, z2⟩ := z
      simp only at CC OP FY
      have x0 := P8.out.cell 0
      have x1 := P8.out.cell 1
      have x2 := P8.out.cell 2
      have x3 := P8.out.cell 3
      have x4 := P8.out.cell 4
      have x5 := P8.out.cell 5
      have x6 := P8.out.cell 6
      have x7 := P8.out.cell 7
      simp at x0 x1 x2 x3 x4 x5 x6 x7
      have y0 := D1.out.cell 0
      have y1 := D1.out.cell 1
      have y2 := D1.out.cell 2
      have y3 := D1.out.cell 3
      simp at y0 y1 y2 y3
      go_wp2_with fail
      refine (RP.out _ BW.out).mono ?_
      rintro e w6 ⟨rfl, hb⟩
      replace R := Lib.hid (R.out.below hb)
      clear x0 x1 x2 x3 x4 x5 x6 x7 y0 y1 y2 y3
      replace D1 := Lib.hid (D1.out.below hb)
      replace L7 := Lib.hid (L7.out.below hb)
      replace P8 := Lib.hid (P8.out.below hb)
      replace HG := Lib.hid (HG.out.below hb)
      replace BB := Lib.hid (BB.out.trans (hb.mono BB.out.size))
      replace BW := Lib.hid (BW.out.trans (hb.mono BW.out.size))
      clear hb
      rcases PR.out with hp | ⟨p, m, hp, hm, hroom, -⟩
      · have e1 : pa = -1 := by rw [← HPA.out, hp]
        subst e1
        clear hp PR
        go_wp2_with fail
        go_roundw
        case rel => exact ⟨j + 1, by omega, by go_num, by rw [FX.out (by omega)]; exact R.out, BW.out⟩
        case measure => simp [intOf]; omega
      have e1 : pa = (p : Int) := by rw [← HPA.out, hp]
      subst e1
      have hm10 : 10 ≤ m := by rcases hm with rfl | rfl <;> omega
      have hroom2 : p + 12 ≤ pn := by rw [HPN.out] at hroom; omega
      clear hp hm PR hm10 hroom
      have FZ := Lib.hid (FY.out p rfl)
      clear FX FY F1 F2
      obtain ⟨⟨hp1, hp2⟩, -⟩ := OP.out
      simp only at hp1 hp2
      obtain ⟨o, rfl⟩ : ∃ k : Nat, o = k := ⟨o.toNat, by omega⟩
      rw [Int.toNat_natCast] at FZ
      have m1 : (o : Int).tmod 12 = ((o % 12 : Nat) : Int) := by rw [Int.tmod_eq_emod_of_nonneg (by omega)]; simp
      have m2 : (o : Int) % 12 = ((o % 12 : Nat) : Int) := by simp
      have r1 : o % 12 < 12 := Nat.mod_lt _ (by omega)
      obtain ⟨x, hx⟩ : ∃ x, o % 12 = x := ⟨_, rfl⟩
      rw [hx] at m1 m2 r1 FZ
      clear hx
      have hpj : p + x < (F j).length := by rw [F3.out]; omega
      obtain ⟨⟨d0, d1, d2⟩, f0, f1, f2⟩ := R.out.at3 (i := p + x) hpj
      have q3 : IntKind.i64.wrap ((p : Int) + (x : Int)) = (p : Int) + (x : Int) := IntWalk.i64_in _ (by omega)
      have q4 : (p : Int) + (x : Int) < (pn : Int) := by omega
      have q5 : (0 : Int) ≤ (p : Int) + (x : Int) := by omega
      have q6 : ((p : Int) + (x : Int)).toNat = p + x := by omega
      have q7 : IntKind.i64.wrap (o : Int) = (o : Int) := IntWalk.i64_in _ (by omega)
      obtain ⟨c0, c1, c2, c3⟩ := CC.out _ BB.out
      have mixed : Tryd.prog.follows Departure.mixedOrders = true := by kernel_rfl
      go_upto_region 16 with fail
      go_big_region_o
      --STOP
      go_wp2_with fail
      go_roundw
      case rel => exact ⟨j + 1, by omega, by go_num, by rw [FZ.out]; exact (R.out.put3 hpj z0 z1 z2).below ((Below.refl _ _).drew), (R.out.put3Below BW.out (p + x) z0 z1 z2).drew⟩
      case measure => simp [intOf]; omega
    obtain rfl : j = kp := by omega
    have hpn2 : 2 ≤ pn := by have := starts T C B; have := HPN.out; omega
    have FN := Lib.hid (F3.out j)
    have FR := Lib.hid (F4.out j (Nat.le_refl _))
    clear F0 F1 F2 F3 F4
    obtain ⟨M2, hM2⟩ : ∃ X, F j = X := ⟨_, rfl⟩
    rw [hM2] at R FN FR
    clear hM2
    have HD := Lib.hid (rdE_long OK.out (M := M2) (who := a) (by rw [FN.out, HPN.out]; exact Nat.le_refl _))
    have RE := Lib.hid (fun W h (h' : Below wr.heap.size wr W) => read_any T C B _ M2 a W h OK.out (R.out.below h').sk (by rw [FN.out]; omega) FR.out ha.2)
    have RR := Lib.hid (fun W (h : Below W3.heap.size W3 W) (h' : Below wr.heap.size wr W) => rread_any T C B (.slice ua pn uc) _ M2 a W OK.out (by rw [HPN.out]; exact U0.out.below h) (R.out.below h').sk (by rw [FN.out, HPN.out]; exact Nat.le_refl _) (by rw [FN.out]; omega) FR.out ha)
    unfold PlV at RR
    rw [HPN.out, HS4.out, HRM.out] at RR
    have RS := Lib.hid (fun W h (h' : Below wr.heap.size wr W) => (read_any T C B (.slice (some ⟨g, 0 + 1 * wdE.k, none⟩) (pn - 1) (pn - 1)) ((M2.take pn).drop 1) a W h OK.out ((R.out.below h').sk.part 1 pn (pn - 1) (by omega) (Nat.le_refl _) (Nat.le_refl _)) (by rw [List.length_drop, List.length_take, FN.out]; omega) (fun x hx => FR.out x (List.mem_of_mem_take (List.mem_of_mem_drop hx))) ha.2).mono (fun e w' h => h.short (rdE_short OK.out (by rw [List.length_drop, List.length_take, FN.out, HPN.out]; omega))))
    rw [show 0 + 1 * wdE.k = 3 from rfl] at RS
    have M32 := Lib.hid (rdD_len OK.out M2 a)
    have RN := Lib.hid (fun r h h' => rdD_no (T := T) (C := C) (B := B) (M := M2) (a := a) (r := r) h h')
    have B6 := Lib.hid (Below.refl wr.heap.size wr)
    rw [HPA.out] at HD
    obtain ⟨r, hr⟩ : ∃ r, rdE T C B M2 a = r := ⟨_, rfl⟩
    have HR := Lib.hid hr
    rw [hr] at HD
    obtain ⟨d, hd⟩ : ∃ y, rdD T C B M2 a = y := ⟨_, rfl⟩
    have HDD := Lib.hid hd
    rw [hd] at M32
    clear hr hd R
    have y0 := D1.out.cell 0
    have y1 := D1.out.cell 1
    have y2 := D1.out.cell 2
    have y3 := D1.out.cell 3
    simp at y0 y1 y2 y3
    have x0 := L7.out.cell 0
    have x1 := L7.out.cell 1
    have x2 := L7.out.cell 2
    simp at x0 x1 x2
    go_wp2_with fail
    refine (RE.out _ HG.out B6.out).mono ?_
    rintro e w7 ⟨⟨u, rfl, hes⟩, hb⟩
    rw [HDD.out] at hes
    rw [HDD.out, HR.out]
    obtain ⟨d0, d1, d2, DL⟩ := d
    simp only at hes ⊢
    have HXE := Lib.hid hes
    obtain ⟨xa, xc, rfl, _⟩ := hes.form
    clear hes RE x0 x1 x2 y0 y1 y2 y3
    obtain ⟨m, hm⟩ : ∃ m, DL.length = m := ⟨_, rfl⟩
    have HM := Lib.hid hm
    rw [hm] at HXE ⊢
    clear hm
    replace D1 := Lib.hid (D1.out.below hb)
    replace L7 := Lib.hid (L7.out.below hb)
    replace P8 := Lib.hid (P8.out.below hb)
    replace HG := Lib.hid (HG.out.below hb)
    replace BB := Lib.hid (BB.out.trans (hb.mono BB.out.size))
    replace BW := Lib.hid (BW.out.trans (hb.mono BW.out.size))
    replace B6 := Lib.hid (B6.out.trans (hb.mono B6.out.size))
    clear hb
    go_upto_region 18 with fail
    have X16 := Lib.hid (Box.new w7 #[.int .i64 d0, .int .i64 d1, .int .i64 d2, .slice xa m xc] 25 rfl)
    have B1 := Lib.hid (below1 w7 (.cells #[.int .i64 d0, .int .i64 d1, .int .i64 d2, .slice xa m xc] 25))
    replace D1 := Lib.hid (D1.out.below B1.out)
    replace L7 := Lib.hid (L7.out.below B1.out)
    replace P8 := Lib.hid (P8.out.below B1.out)
    replace HG := Lib.hid (HG.out.below B1.out)
    replace HXE := Lib.hid (HXE.out.below B1.out)
    replace BB := Lib.hid (BB.out.trans (B1.out.mono BB.out.size))
    replace BW := Lib.hid (BW.out.trans (B1.out.mono BW.out.size))
    replace B6 := Lib.hid (B6.out.trans (B1.out.mono B6.out.size))
    clear B1
    generalize w7.alloc (.cells #[.int .i64 d0, .int .i64 d1, .int .i64 d2, .slice xa m xc] 25) = W7 at *
    generalize w7.heap.size = p16 at *
    have x0 := P8.out.cell 0
    have x1 := P8.out.cell 1
    have x2 := P8.out.cell 2
    have x3 := P8.out.cell 3
    have x4 := P8.out.cell 4
    have x5 := P8.out.cell 5
    have x6 := P8.out.cell 6
    have x7 := P8.out.cell 7
    simp at x0 x1 x2 x3 x4 x5 x6 x7
    have y0 := D1.out.cell 0
    have y1 := D1.out.cell 1
    have y2 := D1.out.cell 2
    have y3 := D1.out.cell 3
    simp at y0 y1 y2 y3
    go_wp2_with fail
    refine (RR.out _ BW.out B6.out).mono ?_
    rintro e w8 ⟨⟨y0', y1', y2', ya, m2, yc, rfl, hy⟩, hb⟩
    rw [HR.out]
    rw [HR.out, HDD.out] at hy
    have HY := Lib.hid hy
    clear hy RR x0 x1 x2 x3 x4 x5 x6 x7 y0 y1 y2 y3
    replace D1 := Lib.hid (D1.out.below hb)
    replace L7 := Lib.hid (L7.out.below hb)
    replace P8 := Lib.hid (P8.out.below hb)
    replace HG := Lib.hid (HG.out.below hb)
    replace X16 := Lib.hid (X16.out.below hb)
    replace HXE := Lib.hid (HXE.out.below hb)
    replace BB := Lib.hid (BB.out.trans (hb.mono BB.out.size))
    replace BW := Lib.hid (BW.out.trans (hb.mono BW.out.size))
    replace B6 := Lib.hid (B6.out.trans (hb.mono B6.out.size))
    go_upto_region 19 with fail
    have X18 := Lib.hid (Box.new w8 #[.int .i64 y0', .int .i64 y1', .int .i64 y2', .slice ya m2 yc] 39 rfl)
    have B1 := Lib.hid (below1 w8 (.cells #[.int .i64 y0', .int .i64 y1', .int .i64 y2', .slice ya m2 yc] 39))
    have BY := Lib.hid (Below.refl w8.heap.size w8)
    replace D1 := Lib.hid (D1.out.below B1.out)
    replace L7 := Lib.hid (L7.out.below B1.out)
    replace P8 := Lib.hid (P8.out.below B1.out)
    replace HG := Lib.hid (HG.out.below B1.out)
    replace HXE := Lib.hid (HXE.out.below B1.out)
    replace X16 := Lib.hid (X16.out.below B1.out)
    replace BY := Lib.hid (BY.out.trans (B1.out.mono BY.out.size))
    replace BB := Lib.hid (BB.out.trans (B1.out.mono BB.out.size))
    replace BW := Lib.hid (BW.out.trans (B1.out.mono BW.out.size))
    replace B6 := Lib.hid (B6.out.trans (B1.out.mono B6.out.size))
    clear B1 hb
    generalize hW8 : w8.alloc (.cells #[.int .i64 y0', .int .i64 y1', .int .i64 y2', .slice ya m2 yc] 39) = W8 at *
    clear hW8
    obtain ⟨p18, hp18⟩ : ∃ x, w8.heap.size = x := ⟨_, rfl⟩
    rw [hp18] at X18 ⊢
    clear hp18
    have x0 := P8.out.cell 0
    have x1 := P8.out.cell 1
    have x2 := P8.out.cell 2
    have x3 := P8.out.cell 3
    have x4 := P8.out.cell 4
    have x5 := P8.out.cell 5
    have x6 := P8.out.cell 6
    have x7 := P8.out.cell 7
    simp at x0 x1 x2 x3 x4 x5 x6 x7
    have y0 := D1.out.cell 0
    have y1 := D1.out.cell 1
    have y2 := D1.out.cell 2
    have y3 := D1.out.cell 3
    simp at y0 y1 y2 y3
    go_wp2_with fail
    refine (RP.out _ BW.out).mono ?_
    rintro e w9 ⟨rfl, hb⟩
    replace D1 := Lib.hid (D1.out.below hb)
    replace L7 := Lib.hid (L7.out.below hb)
    replace HG := Lib.hid (HG.out.below hb)
    replace X16 := Lib.hid (X16.out.below hb)
    replace X18 := Lib.hid (X18.out.below hb)
    replace HXE := Lib.hid (HXE.out.below hb)
    replace BB := Lib.hid (BB.out.trans (hb.mono BB.out.size))
    replace BW := Lib.hid (BW.out.trans (hb.mono BW.out.size))
    replace B6 := Lib.hid (B6.out.trans (hb.mono B6.out.size))
    replace BY := Lib.hid (BY.out.trans (hb.mono BY.out.size))
    clear hb RP P8 x0 x1 x2 x3 x4 x5 x6 x7 y0 y1 y2 y3
    by_cases hp0 : pa < 0
    · rw [if_pos hp0] at HD
      have e1 := HD.out
      subst e1
      have e2 := HDD.out.symm.trans (RN.out _ HR.out (by decide))
      injection e2 with ea e2
      injection e2 with eb e2
      injection e2 with ec ed
      have em := HM.out
      subst ea eb ec ed
      simp at em
      subst em
      have hb3 : decide ((3 : Int) = 0) = false := by decide
      rw [hb3]
      clear hb3
      have k0 := X16.out.cell 0
      have k1 := X16.out.cell 1
      have k2 := X16.out.cell 2
      have k3 := X16.out.cell 3
      simp at k0 k1 k2 k3
      go_wp2_with fail
      refine (awake_any _ HG.out).mono ?_
      rintro e w9 ⟨rfl, hb⟩
      replace BB := Lib.hid (BB.out.trans (hb.mono BB.out.size))
      clear hb
      go_wp2_with fail
      go_ret
      exact ⟨rfl, BB.out⟩
    rw [if_neg hp0] at HD
    obtain ⟨zz, hzz⟩ : ∃ x, rdB T C B (M2.drop pa.toNat) a = x := ⟨_, rfl⟩
    rw [hzz] at HD
    clear hzz
    cases zz with
    | false =>
      rw [if_neg (by decide)] at HD
      have e1 := HD.out
      subst e1
      have e2 := HDD.out.symm.trans (RN.out _ HR.out (by decide))
      injection e2 with ea e2
      injection e2 with eb e2
      injection e2 with ec ed
      have em := HM.out
      subst ea eb ec ed
      simp at em
      subst em
      have hb3 : decide ((5 : Int) = 0) = false := by decide
      rw [hb3]
      clear hb3
      have k0 := X16.out.cell 0
      have k1 := X16.out.cell 1
      have k2 := X16.out.cell 2
      have k3 := X16.out.cell 3
      simp at k0 k1 k2 k3
      go_wp2_with fail
      refine (awake_any _ HG.out).mono ?_
      rintro e w9 ⟨rfl, hb⟩
      replace BB := Lib.hid (BB.out.trans (hb.mono BB.out.size))
      clear hb
      go_wp2_with fail
      go_ret
      exact ⟨rfl, BB.out⟩
    | true =>
    rw [if_pos rfl] at HD
    have e1 := HD.out
    subst e1
    obtain ⟨YL, eY, eYl, hY⟩ := HY.out rfl
    injection eY with ea e2
    injection e2 with eb e2
    injection e2 with ec ed
    subst ea eb ec ed
    have em : m = m2 := by rw [← HM.out, eYl]
    subst em
    have HYE := Lib.hid (hY.below BY.out)
    clear hY eYl HY BY
    have hb3 : decide ((0 : Int) = 0) = true := by decide
    rw [hb3]
    clear hb3
    have SA := Lib.hid (fun W h h' => rsame_any (.slice xa m xc) (.slice ya m yc) DL DL W h h' (by have := M32.out; omega))
    rw [decide_eq_true (show DL = DL from rfl)] at SA
    go_upto_region 29 with fail
    go_cut [24] (fun s wx => s = .int .i64 1 ∧ Box wx p16 #[.int .i64 d0, .int .i64 d1, .int .i64 d2, .slice xa m xc] 25 ∧ Box wx p18 #[.int .i64 d0, .int .i64 d1, .int .i64 d2, .slice ya m yc] 39 ∧ ES wx (.slice xa m xc) DL ∧ ES wx (.slice ya m yc) DL ∧ Below w.heap.size w wx)
    case first =>
      have qn1 : (1 : Int) ≤ (pn : Int) := by omega
      have qn2 : ¬ pn = 1 := by omega
      have BV := Lib.hid (show Lat w9 w9 from Below.refl _ _)
      replace L7 := Lib.hid (L7.out.below ((Below.refl _ _).drew))
      replace D1 := Lib.hid (D1.out.below ((Below.refl _ _).drew))
      replace BV := Lib.hid (BV.out.below ((Below.refl _ _).drew))
      replace BB := Lib.hid (BB.out.trans (((Below.refl _ _).drew).mono BB.out.size))
      refine wp_region_held_drew (S := fun w' => w'.cell? ⟨p7, 0, none⟩ = some (.int .i64 T) ∧ w'.cell? ⟨p7, 1, none⟩ = some (.int .i64 C) ∧ w'.cell? ⟨p7, 2, none⟩ = some (.int .i64 B) ∧ w'.cell? ⟨q + 1, 0, none⟩ = some (.int .i64 a)) (by kernel_rfl) ⟨(L7.out.cell 0), (L7.out.cell 1), (L7.out.cell 2), (D1.out.cell 0)⟩ (fun hHeld => ?_)
      generalize World.drew w9 = V30 at *
      refine wpAnyH_take (i := 0) (oi := { dst := some 173, op := Op.load 29 (Operand.tmp 7), type := 29, pos := "law.go:176", after := #[], guard := none }) (v := ?d31_1xv0) rfl (by kernel_rfl) (by kernel_rfl) (by kernel_rfl) (fun _ _ _ h => h) (Or.inl ⟨by rfl, ?d31_1xy0⟩) (by assumption) ?d31_1xr0
      case d31_1xy0 => (intro w hSw; (try dsimp only at hSw); go_simp; try with_reducible rfl)
      (try simp only [Act.put])
      (try simp only [List.setIfInBounds_toArray])
      (try simp only [List.set_cons_succ])
      (try simp only [List.set_cons_zero])
      refine wpAnyH_take (i := 1) (oi := { dst := some 174, op := Op.move (Operand.tmp 10), type := 35, pos := "law.go:176", after := #[], guard := none }) (v := ?d31_2xv1) rfl (by kernel_rfl) (by kernel_rfl) (by kernel_rfl) (fun _ _ _ h => h) (Or.inl ⟨by rfl, ?d31_2xy1⟩) (by assumption) ?d31_2xr1
      case d31_2xy1 => (intro w hSw; (try dsimp only at hSw); go_simp; try with_reducible rfl)
      (try simp only [Act.put])
      (try simp only [List.setIfInBounds_toArray])
      (try simp only [List.set_cons_succ])
      (try simp only [List.set_cons_zero])
      refine wpAnyH_take (i := 2) (oi := { dst := some 175, op := Op.slice 35 (Operand.tmp 174) (some (Operand.const (Value.int IntKind.i64 1))) none none, type := 35, pos := "law.go:176", after := #[{ on := 1, ground := Ground.data }], guard := none }) (v := ?d31_3xv2) rfl (by kernel_rfl) (by kernel_rfl) (by kernel_rfl) (fun _ _ _ h => h) (Or.inl ⟨by rfl, ?d31_3xy2⟩) (by assumption) ?d31_3xr2
      case d31_3xy2 => (intro w hSw; (try dsimp only at hSw); go_simp; try with_reducible rfl)
      (try simp only [Act.put])
      (try simp only [List.setIfInBounds_toArray])
      (try simp only [List.set_cons_succ])
      (try simp only [List.set_cons_zero])
      refine wpAnyH_take (i := 3) (oi := { dst := some 176, op := Op.fieldAddr 25 (Operand.tmp 4) 0, type := 0, pos := "law.go:176", after := #[], guard := none }) (v := ?d31_4xv3) rfl (by kernel_rfl) (by kernel_rfl) (by kernel_rfl) (fun _ _ _ h => h) (Or.inl ⟨by rfl, ?d31_4xy3⟩) (by assumption) ?d31_4xr3
      case d31_4xy3 => (intro w hSw; (try dsimp only at hSw); go_simp; try with_reducible rfl)
      (try simp only [Act.put])
      (try simp only [List.setIfInBounds_toArray])
      (try simp only [List.set_cons_succ])
      (try simp only [List.set_cons_zero])
      refine wpAnyH_take (i := 4) (oi := { dst := some 177, op := Op.load 3 (Operand.tmp 176), type := 3, pos := "law.go:176", after := #[{ on := 3, ground := Ground.data }], guard := none }) (v := ?d31_5xv4) rfl (by kernel_rfl) (by kernel_rfl) (by kernel_rfl) (fun _ _ _ h => h) (Or.inl ⟨by rfl, ?d31_5xy4⟩) (by assumption) ?d31_5xr4
      case d31_5xy4 => (intro w hSw; (try dsimp only at hSw); go_simp; try with_reducible rfl)
      (try simp only [Act.put])
      (try simp only [List.setIfInBounds_toArray])
      (try simp only [List.set_cons_succ])
      (try simp only [List.set_cons_zero])
      refine wpAnyH_ready (rs := [5, 9]) (by kernel_rfl) (by simp) ?_
      refine AllReadyH.cons (o := { dst := some 178, op := Op.call { callee := Callee.value (Operand.func 22), args := #[Operand.tmp 173, Operand.tmp 175, Operand.tmp 177], argTypes := #[29, 35, 3] }, type := 57, pos := "law.go:176", after := #[{ on := 0, ground := Ground.data }, { on := 2, ground := Ground.data }, { on := 4, ground := Ground.data }], guard := none }) rfl (fun K hK => ?_) ?_
      · skip
        go_simp
        go_at_call 22
        refine (RS.out _ (HG.out.below BV.out) (B6.out.trans (Below.mono BV.out B6.out.size))).mono ?_
        rintro e v31 ⟨zx, zc, rfl, hb⟩
        replace L7 := Lib.hid (L7.out.below (hb))
        replace D1 := Lib.hid (D1.out.below (hb))
        replace BV := Lib.hid (BV.out.below (hb))
        replace BB := Lib.hid (BB.out.trans ((hb).mono BB.out.size))
        clear hb
        go_simp
        refine hK.out _ _ ?_ (fun hHeld => ?_)
        · exact ⟨(L7.out.cell 0), (L7.out.cell 1), (L7.out.cell 2), (D1.out.cell 0)⟩
        clear hK K
        (try simp only [Act.put])
        (try simp only [List.setIfInBounds_toArray])
        (try simp only [List.set_cons_succ])
        (try simp only [List.set_cons_zero])
        refine wpAnyH_take (i := 6) (oi := { dst := some 172, op := Op.move (Operand.tmp 178), type := 57, pos := "law.go:176", after := #[{ on := 5, ground := Ground.data }], guard := none }) (v := ?d32_6xv6) rfl (by kernel_rfl) (by kernel_rfl) (by kernel_rfl) (fun _ _ _ h => h) (Or.inl ⟨by rfl, ?d32_6xy6⟩) (by assumption) ?d32_6xr6
        case d32_6xy6 => (intro w hSw; (try dsimp only at hSw); go_simp; try with_reducible rfl)
        (try simp only [Act.put])
        (try simp only [List.setIfInBounds_toArray])
        (try simp only [List.set_cons_succ])
        (try simp only [List.set_cons_zero])
        refine wpAnyH_take (i := 7) (oi := { dst := some 179, op := Op.extract (Operand.tmp 172) 0, type := 25, pos := "law.go:176", after := #[{ on := 6, ground := Ground.data }], guard := none }) (v := ?d32_7xv7) rfl (by kernel_rfl) (by kernel_rfl) (by kernel_rfl) (fun _ _ _ h => h) (Or.inl ⟨by rfl, ?d32_7xy7⟩) (by assumption) ?d32_7xr7
        case d32_7xy7 => (intro w hSw; (try dsimp only at hSw); go_simp; try with_reducible rfl)
        (try simp only [Act.put])
        (try simp only [List.setIfInBounds_toArray])
        (try simp only [List.set_cons_succ])
        (try simp only [List.set_cons_zero])
        refine wpAnyH_take (i := 8) (oi := { dst := some 180, op := Op.extract (Operand.tmp 172) 1, type := 36, pos := "law.go:176", after := #[{ on := 6, ground := Ground.data }, { on := 10, ground := Ground.gcOnly Departure.lateStores }], guard := none }) (v := ?d32_8xv8) rfl (by kernel_rfl) (by kernel_rfl) (by kernel_rfl) (fun _ _ _ h => h) (Or.inl ⟨by rfl, ?d32_8xy8⟩) (by assumption) ?d32_8xr8
        case d32_8xy8 => (intro w hSw; (try dsimp only at hSw); go_simp; try with_reducible rfl)
        (try simp only [Act.put])
        (try simp only [List.setIfInBounds_toArray])
        (try simp only [List.set_cons_succ])
        (try simp only [List.set_cons_zero])
        refine wpAnyH_ready (rs := [9]) (by kernel_rfl) (by simp) ?_
        refine AllReadyH.cons (o := { dst := some 23, op := Op.alloc 25, type := 0, pos := "law.go:176", after := #[], guard := none }) rfl (fun K hK => ?_) AllReadyH.nil
        go_simp
        have hlt_p23 := BB.out.size
        have hlt_p23_L7 := L7.out.lt
        have hlt_p23_D1 := D1.out.lt
        have hle_p23_BV := BV.out.le
        replace L7 := Lib.hid (L7.out.below (below_new v31 (.cells #[.int .i64 0, .int .i64 0, .int .i64 0, .slice none 0 0] 25)))
        replace D1 := Lib.hid (D1.out.below (below_new v31 (.cells #[.int .i64 0, .int .i64 0, .int .i64 0, .slice none 0 0] 25)))
        replace BV := Lib.hid (BV.out.below (below_new v31 (.cells #[.int .i64 0, .int .i64 0, .int .i64 0, .slice none 0 0] 25)))
        replace BB := Lib.hid (BB.out.trans ((below_new v31 (.cells #[.int .i64 0, .int .i64 0, .int .i64 0, .slice none 0 0] 25)).mono BB.out.size))
        have X23 := Lib.hid (Box.new v31 #[.int .i64 0, .int .i64 0, .int .i64 0, .slice none 0 0] 25 rfl)
        generalize World.alloc v31 (.cells #[.int .i64 0, .int .i64 0, .int .i64 0, .slice none 0 0] 25) = v32 at *
        generalize World.heap v31 = hp_p23 at *
        generalize hp_p23.size = p23 at *
        refine hK.out _ _ ?_ (fun hHeld => ?_)
        · exact ⟨(L7.out.cell 0), (L7.out.cell 1), (L7.out.cell 2), (D1.out.cell 0)⟩
        clear hK K
        (try simp only [Act.put])
        (try simp only [List.setIfInBounds_toArray])
        (try simp only [List.set_cons_succ])
        (try simp only [List.set_cons_zero])
        refine wpAnyH_ready (rs := [10]) (by kernel_rfl) (by simp) ?_
        refine AllReadyH.cons (o := { dst := none, op := Op.store 25 (Operand.tmp 23) (Operand.tmp 179), type := 0, pos := "law.go:176", after := #[{ on := 9, ground := Ground.data }, { on := 7, ground := Ground.data }, { on := 5, ground := Ground.chain }, { on := 0, ground := Ground.phase }, { on := 1, ground := Ground.phase }, { on := 2, ground := Ground.phase }, { on := 3, ground := Ground.phase }, { on := 4, ground := Ground.phase }, { on := 5, ground := Ground.phase }, { on := 6, ground := Ground.phase }, { on := 7, ground := Ground.phase }, { on := 8, ground := Ground.textOnly Departure.lateStores }, { on := 9, ground := Ground.phase }], guard := none }) rfl (fun K hK => ?_) AllReadyH.nil
        obtain ⟨⟨m0, m1, m2, m3⟩, g0, g1, g2, g3⟩ := X23.out.cells4
        go_simp
        clear m0 g0 m1 g1 m2 g2 m3 g3
        replace L7 := Lib.hid (L7.out.only (by omega) (((((Only.refl p23 v32).set 0 (.int .i64 0)).set 1 (.int .i64 0)).set 2 (.int .i64 0)).set 3 (.slice zx 0 zc)))
        replace D1 := Lib.hid (D1.out.only (by omega) (((((Only.refl p23 v32).set 0 (.int .i64 0)).set 1 (.int .i64 0)).set 2 (.int .i64 0)).set 3 (.slice zx 0 zc)))
        replace BV := Lib.hid (((((BV.out.put p23 (by omega) 0 (.int .i64 0)).put p23 (by omega) 1 (.int .i64 0)).put p23 (by omega) 2 (.int .i64 0)).put p23 (by omega) 3 (.slice zx 0 zc)))
        replace BB := Lib.hid (((((BB.out).put p23 (by omega) 0 (.int .i64 0)).put p23 (by omega) 1 (.int .i64 0)).put p23 (by omega) 2 (.int .i64 0)).put p23 (by omega) 3 (.slice zx 0 zc))
        replace X23 := Lib.hid (((((X23.out).set 0 (.int .i64 0)).set 1 (.int .i64 0)).set 2 (.int .i64 0)).set 3 (.slice zx 0 zc))
        generalize (World.setCell (World.setCell (World.setCell (World.setCell v32 ⟨p23, 0, none⟩ (.int .i64 0)) ⟨p23, 1, none⟩ (.int .i64 0)) ⟨p23, 2, none⟩ (.int .i64 0)) ⟨p23, 3, none⟩ (.slice zx 0 zc)) = v33 at *
        refine hK.out _ _ ?_ (fun hHeld => ?_)
        · exact ⟨(L7.out.cell 0), (L7.out.cell 1), (L7.out.cell 2), (D1.out.cell 0)⟩
        clear hK K
        (try simp only [Act.put])
        (try simp only [List.setIfInBounds_toArray])
        (try simp only [List.set_cons_succ])
        (try simp only [List.set_cons_zero])
        refine wpAnyH_ready (rs := [11]) (by kernel_rfl) (by simp) ?_
        refine AllReadyH.cons (o := { dst := some 24, op := Op.assign (Operand.tmp 180), type := 36, pos := "law.go:176", after := #[{ on := 8, ground := Ground.data }, { on := 10, ground := Ground.chain }, { on := 0, ground := Ground.phase }, { on := 1, ground := Ground.phase }, { on := 2, ground := Ground.phase }, { on := 3, ground := Ground.phase }, { on := 4, ground := Ground.phase }, { on := 5, ground := Ground.phase }, { on := 6, ground := Ground.phase }, { on := 7, ground := Ground.phase }, { on := 8, ground := Ground.phase }, { on := 9, ground := Ground.phase }, { on := 10, ground := Ground.phase }], guard := none }) rfl (fun K hK => ?_) AllReadyH.nil
        go_simp
        refine hK.out _ _ ?_ (fun hHeld => ?_)
        · exact ⟨(L7.out.cell 0), (L7.out.cell 1), (L7.out.cell 2), (D1.out.cell 0)⟩
        clear hK K
        (try simp only [Act.put])
        (try simp only [List.setIfInBounds_toArray])
        (try simp only [List.set_cons_succ])
        (try simp only [List.set_cons_zero])
        refine wpAnyH_done (by kernel_rfl) ?_ _
        clear hHeld
        go_wp2_with fail
        go_meet
        case rel => exact ⟨rfl, X16.out.below BV.out, X18.out.below BV.out, HXE.out.below BV.out, HYE.out.below BV.out, BB.out⟩
      refine AllReadyH.cons (o := { dst := some 23, op := Op.alloc 25, type := 0, pos := "law.go:176", after := #[], guard := none }) rfl (fun K hK => ?_) AllReadyH.nil
      go_simp
      have hlt_p23 := BB.out.size
      have hlt_p23_L7 := L7.out.lt
      have hlt_p23_D1 := D1.out.lt
      have hle_p23_BV := BV.out.le
      replace L7 := Lib.hid (L7.out.below (below_new V30 (.cells #[.int .i64 0, .int .i64 0, .int .i64 0, .slice none 0 0] 25)))
      replace D1 := Lib.hid (D1.out.below (below_new V30 (.cells #[.int .i64 0, .int .i64 0, .int .i64 0, .slice none 0 0] 25)))
      replace BV := Lib.hid (BV.out.below (below_new V30 (.cells #[.int .i64 0, .int .i64 0, .int .i64 0, .slice none 0 0] 25)))
      replace BB := Lib.hid (BB.out.trans ((below_new V30 (.cells #[.int .i64 0, .int .i64 0, .int .i64 0, .slice none 0 0] 25)).mono BB.out.size))
      have X23 := Lib.hid (Box.new V30 #[.int .i64 0, .int .i64 0, .int .i64 0, .slice none 0 0] 25 rfl)
      generalize World.alloc V30 (.cells #[.int .i64 0, .int .i64 0, .int .i64 0, .slice none 0 0] 25) = v34 at *
      generalize World.heap V30 = hp_p23 at *
      generalize hp_p23.size = p23 at *
      refine hK.out _ _ ?_ (fun hHeld => ?_)
      · exact ⟨(L7.out.cell 0), (L7.out.cell 1), (L7.out.cell 2), (D1.out.cell 0)⟩
      clear hK K
      (try simp only [Act.put])
      (try simp only [List.setIfInBounds_toArray])
      (try simp only [List.set_cons_succ])
      (try simp only [List.set_cons_zero])
      refine wpAnyH_ready (rs := [5]) (by kernel_rfl) (by simp) ?_
      refine AllReadyH.cons (o := { dst := some 178, op := Op.call { callee := Callee.value (Operand.func 22), args := #[Operand.tmp 173, Operand.tmp 175, Operand.tmp 177], argTypes := #[29, 35, 3] }, type := 57, pos := "law.go:176", after := #[{ on := 0, ground := Ground.data }, { on := 2, ground := Ground.data }, { on := 4, ground := Ground.data }], guard := none }) rfl (fun K hK => ?_) AllReadyH.nil
      go_simp
      go_at_call 22
      refine (RS.out _ (HG.out.below BV.out) (B6.out.trans (Below.mono BV.out B6.out.size))).mono ?_
      rintro e v35 ⟨zx, zc, rfl, hb⟩
      replace L7 := Lib.hid (L7.out.below (hb))
      replace D1 := Lib.hid (D1.out.below (hb))
      replace BV := Lib.hid (BV.out.below (hb))
      replace X23 := Lib.hid (X23.out.below (hb))
      replace BB := Lib.hid (BB.out.trans ((hb).mono BB.out.size))
      clear hb
      go_simp
      refine hK.out _ _ ?_ (fun hHeld => ?_)
      · exact ⟨(L7.out.cell 0), (L7.out.cell 1), (L7.out.cell 2), (D1.out.cell 0)⟩
      clear hK K
      (try simp only [Act.put])
      (try simp only [List.setIfInBounds_toArray])
      (try simp only [List.set_cons_succ])
      (try simp only [List.set_cons_zero])
      refine wpAnyH_take (i := 6) (oi := { dst := some 172, op := Op.move (Operand.tmp 178), type := 57, pos := "law.go:176", after := #[{ on := 5, ground := Ground.data }], guard := none }) (v := ?d36_9xv6) rfl (by kernel_rfl) (by kernel_rfl) (by kernel_rfl) (fun _ _ _ h => h) (Or.inl ⟨by rfl, ?d36_9xy6⟩) (by assumption) ?d36_9xr6
      case d36_9xy6 => (intro w hSw; (try dsimp only at hSw); go_simp; try with_reducible rfl)
      (try simp only [Act.put])
      (try simp only [List.setIfInBounds_toArray])
      (try simp only [List.set_cons_succ])
      (try simp only [List.set_cons_zero])
      refine wpAnyH_take (i := 7) (oi := { dst := some 179, op := Op.extract (Operand.tmp 172) 0, type := 25, pos := "law.go:176", after := #[{ on := 6, ground := Ground.data }], guard := none }) (v := ?d36_10xv7) rfl (by kernel_rfl) (by kernel_rfl) (by kernel_rfl) (fun _ _ _ h => h) (Or.inl ⟨by rfl, ?d36_10xy7⟩) (by assumption) ?d36_10xr7
      case d36_10xy7 => (intro w hSw; (try dsimp only at hSw); go_simp; try with_reducible rfl)
      (try simp only [Act.put])
      (try simp only [List.setIfInBounds_toArray])
      (try simp only [List.set_cons_succ])
      (try simp only [List.set_cons_zero])
      refine wpAnyH_take (i := 8) (oi := { dst := some 180, op := Op.extract (Operand.tmp 172) 1, type := 36, pos := "law.go:176", after := #[{ on := 6, ground := Ground.data }, { on := 10, ground := Ground.gcOnly Departure.lateStores }], guard := none }) (v := ?d36_11xv8) rfl (by kernel_rfl) (by kernel_rfl) (by kernel_rfl) (fun _ _ _ h => h) (Or.inl ⟨by rfl, ?d36_11xy8⟩) (by assumption) ?d36_11xr8
      case d36_11xy8 => (intro w hSw; (try dsimp only at hSw); go_simp; try with_reducible rfl)
      (try simp only [Act.put])
      (try simp only [List.setIfInBounds_toArray])
      (try simp only [List.set_cons_succ])
      (try simp only [List.set_cons_zero])
      refine wpAnyH_ready (rs := [10]) (by kernel_rfl) (by simp) ?_
      refine AllReadyH.cons (o := { dst := none, op := Op.store 25 (Operand.tmp 23) (Operand.tmp 179), type := 0, pos := "law.go:176", after := #[{ on := 9, ground := Ground.data }, { on := 7, ground := Ground.data }, { on := 5, ground := Ground.chain }, { on := 0, ground := Ground.phase }, { on := 1, ground := Ground.phase }, { on := 2, ground := Ground.phase }, { on := 3, ground := Ground.phase }, { on := 4, ground := Ground.phase }, { on := 5, ground := Ground.phase }, { on := 6, ground := Ground.phase }, { on := 7, ground := Ground.phase }, { on := 8, ground := Ground.textOnly Departure.lateStores }, { on := 9, ground := Ground.phase }], guard := none }) rfl (fun K hK => ?_) AllReadyH.nil
      obtain ⟨⟨m0, m1, m2, m3⟩, g0, g1, g2, g3⟩ := X23.out.cells4
      go_simp
      clear m0 g0 m1 g1 m2 g2 m3 g3
      replace L7 := Lib.hid (L7.out.only (by omega) (((((Only.refl p23 v35).set 0 (.int .i64 0)).set 1 (.int .i64 0)).set 2 (.int .i64 0)).set 3 (.slice zx 0 zc)))
      replace D1 := Lib.hid (D1.out.only (by omega) (((((Only.refl p23 v35).set 0 (.int .i64 0)).set 1 (.int .i64 0)).set 2 (.int .i64 0)).set 3 (.slice zx 0 zc)))
      replace BV := Lib.hid (((((BV.out.put p23 (by omega) 0 (.int .i64 0)).put p23 (by omega) 1 (.int .i64 0)).put p23 (by omega) 2 (.int .i64 0)).put p23 (by omega) 3 (.slice zx 0 zc)))
      replace BB := Lib.hid (((((BB.out).put p23 (by omega) 0 (.int .i64 0)).put p23 (by omega) 1 (.int .i64 0)).put p23 (by omega) 2 (.int .i64 0)).put p23 (by omega) 3 (.slice zx 0 zc))
      replace X23 := Lib.hid (((((X23.out).set 0 (.int .i64 0)).set 1 (.int .i64 0)).set 2 (.int .i64 0)).set 3 (.slice zx 0 zc))
      generalize (World.setCell (World.setCell (World.setCell (World.setCell v35 ⟨p23, 0, none⟩ (.int .i64 0)) ⟨p23, 1, none⟩ (.int .i64 0)) ⟨p23, 2, none⟩ (.int .i64 0)) ⟨p23, 3, none⟩ (.slice zx 0 zc)) = v36 at *
      refine hK.out _ _ ?_ (fun hHeld => ?_)
      · exact ⟨(L7.out.cell 0), (L7.out.cell 1), (L7.out.cell 2), (D1.out.cell 0)⟩
      clear hK K
      (try simp only [Act.put])
      (try simp only [List.setIfInBounds_toArray])
      (try simp only [List.set_cons_succ])
      (try simp only [List.set_cons_zero])
      refine wpAnyH_ready (rs := [11]) (by kernel_rfl) (by simp) ?_
      refine AllReadyH.cons (o := { dst := some 24, op := Op.assign (Operand.tmp 180), type := 36, pos := "law.go:176", after := #[{ on := 8, ground := Ground.data }, { on := 10, ground := Ground.chain }, { on := 0, ground := Ground.phase }, { on := 1, ground := Ground.phase }, { on := 2, ground := Ground.phase }, { on := 3, ground := Ground.phase }, { on := 4, ground := Ground.phase }, { on := 5, ground := Ground.phase }, { on := 6, ground := Ground.phase }, { on := 7, ground := Ground.phase }, { on := 8, ground := Ground.phase }, { on := 9, ground := Ground.phase }, { on := 10, ground := Ground.phase }], guard := none }) rfl (fun K hK => ?_) AllReadyH.nil
      go_simp
      refine hK.out _ _ ?_ (fun hHeld => ?_)
      · exact ⟨(L7.out.cell 0), (L7.out.cell 1), (L7.out.cell 2), (D1.out.cell 0)⟩
      clear hK K
      (try simp only [Act.put])
      (try simp only [List.setIfInBounds_toArray])
      (try simp only [List.set_cons_succ])
      (try simp only [List.set_cons_zero])
      refine wpAnyH_done (by kernel_rfl) ?_ _
      clear hHeld
      go_wp2_with fail
      go_meet
      case rel => exact ⟨rfl, X16.out.below BV.out, X18.out.below BV.out, HXE.out.below BV.out, HYE.out.below BV.out, BB.out⟩

    case rest =>
    obtain ⟨rfl, t1, t2, t3, t4, t5⟩ := hcut
    clear X16 X18 HXE HYE BB HG D1 L7 BW B6 RS
    have X16 := Lib.hid t1
    have X18 := Lib.hid t2
    have HXE := Lib.hid t3
    have HYE := Lib.hid t4
    have BB := Lib.hid t5
    have HG := Lib.hid (HGW.out.below t5)
    clear t1 t2 t3 t4 t5
    have k0 := X16.out.cell 0
    have k1 := X16.out.cell 1
    have k2 := X16.out.cell 2
    have k3 := X16.out.cell 3
    simp at k0 k1 k2 k3
    have l0 := X18.out.cell 0
    have l1 := X18.out.cell 1
    have l2 := X18.out.cell 2
    have l3 := X18.out.cell 3
    simp at l0 l1 l2 l3
    go_wp2_with fail
    refine (SA.out _ HXE.out HYE.out).mono ?_
    rintro e w11 ⟨rfl, hb⟩
    replace HG := Lib.hid (HG.out.below hb)
    replace BB := Lib.hid (BB.out.trans (hb.mono BB.out.size))
    clear hb SA k0 k1 k2 k3 l0 l1 l2 l3 X16 X18 HXE HYE
    go_wp2_with fail
    refine (awake_any _ HG.out).mono ?_
    rintro e w9 ⟨rfl, hb⟩
    replace BB := Lib.hid (BB.out.trans (hb.mono BB.out.size))
    clear hb
    go_wp2_with fail
    go_ret
    exact ⟨rfl, BB.out⟩
end Go.Proofs.YtfegeahieajmkaaDoor
