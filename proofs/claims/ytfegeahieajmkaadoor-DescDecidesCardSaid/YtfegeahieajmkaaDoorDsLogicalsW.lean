/- The walk through DescLogicals. -/
import Derived.Test.YtfegeahieajmkaaDoorDsReadsW
import Derived.Test.YtfegeahieajmkaaDoorDsRLog
import Derived.Test.YtfegeahieajmkaaDoorDsMemory
import Derived.Deep.DeepCutAuto
import Derived.Shelf.RegionOpenPlain
namespace Go.Proofs.YtfegeahieajmkaaDoor
open Go.ChangeShapes Go.WideShapes Go.ChangeAt Go.RowKit Go.Maps
open Lay (startL checkI placeI mayI sizeI Ok starts checkI_ok)
theorem Lat.out8 {a w : World} (h : Lat a w) : Below a.heap.size a w := h
theorem refI_ok (a b : Int) : 0 ≤ (refI a b).1 ∧ (refI a b).1 < 4294967296 := by
  unfold refI
  split <;> simp only <;> omega
theorem log_no {T C B : Nat} (h : Ok T C B) {M : List Wd} {x : Int} (hl : startL T C B 7 ≤ M.length) (hm : mayI T C B x = false) : logE T C B M x = 10 ∧ logW T C B M x = (0, 0, 0) := by
  have e : logE T C B M x = 10 := by rw [logE_long h hl, if_pos hm]
  exact ⟨e, logW_no (by rw [e]; decide)⟩
theorem log_yes {T C B : Nat} (h : Ok T C B) {M : List Wd} {x : Int} (hl : startL T C B 7 ≤ M.length) (hm : mayI T C B x = true) : logE T C B M x = 0 ∧ logW T C B M x = logL T C B M x M[x.toNat]! := by
  have e : logE T C B M x = 0 := by rw [logE_long h hl, if_neg (by rw [hm]; decide)]
  exact ⟨e, logW_yes e⟩
theorem log_short {T C B : Nat} (h : Ok T C B) {M : List Wd} {x : Int} (hl : M.length < startL T C B 7) : logE T C B M x = 1 ∧ logW T C B M x = (0, 0, 0) := by
  have e := logE_short h (x := x) hl
  exact ⟨e, logW_no (by rw [e]; decide)⟩
theorem may_end {T C B : Nat} (h : Ok T C B) : mayI T C B (startL T C B 7 : Nat) = false := by
  cases hm : mayI T C B (startL T C B 7 : Nat) with
  | false => rfl
  | true => have := may_size h hm; omega
set_option maxRecDepth 100000 in
set_option maxHeartbeats 12800000 in
theorem logicals_walk (qa qb qc : Nat) (a b c : Int) (v : Value) (L : List En) (vp : Value) (P : List (Int × Wd)) (w : World) (hg : Lay.Gl w) (h1 : qa < 256) (h2 : qb < 256) (h3 : qc < 256) (ha : -9223372036854775808 ≤ a ∧ a < 9223372036854775808) (_ : -9223372036854775808 ≤ b ∧ b < 9223372036854775808) (hc : -9223372036854775808 ≤ c ∧ c < 9223372036854775808) (hv : ES w v L) (hL : ∀ e ∈ L, OkE e) (_ : L.length ≤ maxLen) (hp : PS w vp P) (hP : ∀ e ∈ P, OkP e) (hPl : P.length ≤ maxLen) : Calls Tryd.prog 6 #[.agg #[.int .u8 qa, .int .u8 qb, .int .u8 qc], .agg #[.int .i64 a, .int .i64 b, .int .i64 c, v], vp] w (Good w) := by
  have HG := Lib.hid hg
  have HGW := Lib.hid hg
  have HV := Lib.hid hv
  have HL := Lib.hid hL
  have HC := Lib.hid hc
  have HP := Lib.hid hp
  have HPO := Lib.hid hP
  have GR := Lib.hid (fun W h => great_any v L W (hv.below h))
  have OK := Lib.hid (plan_ok (a := qa) (b := qb) (c := qc))
  have PA := Lib.hid (fun W h => plan_any qa qb qc W h h1 h2 h3)
  obtain ⟨T, hT⟩ : ∃ x, 1 + qa % 4 = x := ⟨_, rfl⟩
  obtain ⟨C, hC⟩ : ∃ x, 8 + qb % 40 = x := ⟨_, rfl⟩
  obtain ⟨B, hB⟩ : ∃ x, qc % 12 = x := ⟨_, rfl⟩
  rw [hT, hC, hB] at OK PA
  clear hT hC hB
  obtain ⟨a1, cp, rfl, hcap⟩ := hv.form
  obtain ⟨pa1, pcp, rfl, hpcap⟩ := hp.form
  obtain ⟨n, hn⟩ : ∃ n, L.length = n := ⟨_, rfl⟩
  obtain ⟨kp, hkp⟩ : ∃ n, P.length = n := ⟨_, rfl⟩
  rw [hn] at HV hcap GR ⊢
  rw [hkp] at HP hpcap hPl ⊢
  have HN := Lib.hid hn
  have HK := Lib.hid hkp
  have HPL := Lib.hid hPl
  clear hv hg hn hL hc hp hP hkp hPl
  go_enter Tryd.func6, Tryd.ntmps6
  go_upto_region 1 with fail
  have B1 := Lib.hid (below1 w (.cells #[.int .u8 qa, .int .u8 qb, .int .u8 qc] 22))
  have B2 := Lib.hid (below1 (w.alloc (.cells #[.int .u8 qa, .int .u8 qb, .int .u8 qc] 22)) (.cells #[.int .i64 a, .int .i64 b, .int .i64 c, .slice a1 n cp] 25))
  have BB := Lib.hid (B1.out.trans (B2.out.mono B1.out.size))
  have QQ := Lib.hid ((Box.new w #[.int .u8 qa, .int .u8 qb, .int .u8 qc] 22 rfl).below B2.out)
  have D1 := Lib.hid (Box.new (w.alloc (.cells #[.int .u8 qa, .int .u8 qb, .int .u8 qc] 22)) #[.int .i64 a, .int .i64 b, .int .i64 c, .slice a1 n cp] 25 (n := w.heap.size + 1) (by simp))
  replace HG := Lib.hid (HG.out.below BB.out)
  obtain ⟨W, hW⟩ : ∃ W, ((w.alloc (.cells #[.int .u8 qa, .int .u8 qb, .int .u8 qc] 22)).alloc (.cells #[.int .i64 a, .int .i64 b, .int .i64 c, .slice a1 n cp] 25)) = W := ⟨_, rfl⟩
  obtain ⟨q, hq⟩ : ∃ q, w.heap.size = q := ⟨_, rfl⟩
  rw [hW] at BB QQ D1 HG
  rw [hq] at QQ D1
  rw [hW, hq]
  clear hW hq B1 B2
  have y0 := D1.out.cell 0
  have y1 := D1.out.cell 1
  have y2 := D1.out.cell 2
  have y3 := D1.out.cell 3
  simp at y0 y1 y2 y3
  go_wp2_with fail
  refine (GR.out _ BB.out).mono ?_
  rintro e w1 ⟨rfl, hw⟩
  obtain rfl := hw
  clear GR
  by_cases h40 : 40 < n
  · rw [decide_eq_true h40]
    go_wp2_with fail
    refine (awake_any _ HG.out).mono ?_
    rintro e w9 ⟨rfl, hb⟩
    replace BB := Lib.hid (BB.out.trans (hb.mono BB.out.size))
    clear hb
    go_wp2_with fail
    go_ret
    exact ⟨rfl, BB.out⟩
  rw [decide_eq_false h40]
  by_cases h41 : 40 < kp
  · have h42 : (40 : Int) < (kp : Int) := by omega
    go_wp2_with fail
    refine (awake_any _ HG.out).mono ?_
    rintro e w9 ⟨rfl, hb⟩
    replace BB := Lib.hid (BB.out.trans (hb.mono BB.out.size))
    clear hb
    go_wp2_with fail
    go_ret
    exact ⟨rfl, BB.out⟩
  have h42 : ¬ (40 : Int) < (kp : Int) := by omega
  have hl : L.length ≤ 1000 := by rw [HN.out]; omega
  have h4 : n ≤ 40 := by omega
  have h4' : kp ≤ 40 := by omega
  have x0 := QQ.out.cell 0
  have x1 := QQ.out.cell 1
  have x2 := QQ.out.cell 2
  simp at x0 x1 x2
  go_wp2_with fail
  clear h40 h41 h42 y0 y1 y2 y3
  refine (PA.out _ HG.out).mono ?_
  rintro e w2 ⟨⟨u, rfl, hu⟩, hb⟩
  replace D1 := Lib.hid (D1.out.below hb)
  replace HG := Lib.hid (HG.out.below hb)
  replace BB := Lib.hid (BB.out.trans (hb.mono BB.out.size))
  clear hb x0 x1 x2 QQ PA
  have N7 := OK.out.2
  have HU := Lib.hid hu
  obtain ⟨ua, uc, rfl, _⟩ := hu.form
  clear hu
  have ML := Lib.hid (mayBs_len T C B (startL T C B 7))
  rw [ML.out]
  rw [ML.out] at HU
  clear ML
  obtain ⟨pn, hpn⟩ : ∃ n, startL T C B 7 = n := ⟨_, rfl⟩
  obtain ⟨s4, hs4⟩ : ∃ n, startL T C B 4 = n := ⟨_, rfl⟩
  obtain ⟨rm, hrm⟩ : ∃ n, roomsI T C B = n := ⟨_, rfl⟩
  have HPN := Lib.hid hpn
  have HS4 := Lib.hid hs4
  have HRM := Lib.hid hrm
  have FL := Lib.hid (firstL_len T C B)
  have FI := Lib.hid (fun W h => Lay.first_ok T C B W h OK.out)
  have FO := Lib.hid (firstL_ok T C B)
  unfold PlV
  rw [hpn] at FI FL N7 HU ⊢
  rw [hs4, hrm]
  clear hpn hs4 hrm
  go_upto_region 4 with fail
  have L7 := Lib.hid (Box.new w2 #[.int .i64 T, .int .i64 C, .int .i64 B] 29 rfl)
  have P8 := Lib.hid (Box.new (w2.alloc (.cells #[.int .i64 T, .int .i64 C, .int .i64 B] 29)) #[.int .i64 T, .int .i64 B, .int .i64 s4, .int .i64 rm, .int .i64 104, .int .i64 32, .slice ua pn uc, .int .i64 pn] 32 (n := w2.heap.size + 1) (by simp))
  have B1 := Lib.hid (below1 w2 (.cells #[.int .i64 T, .int .i64 C, .int .i64 B] 29))
  have B2 := Lib.hid (below1 (w2.alloc (.cells #[.int .i64 T, .int .i64 C, .int .i64 B] 29)) (.cells #[.int .i64 T, .int .i64 B, .int .i64 s4, .int .i64 rm, .int .i64 104, .int .i64 32, .slice ua pn uc, .int .i64 pn] 32))
  replace L7 := Lib.hid (L7.out.below B2.out)
  replace D1 := Lib.hid (D1.out.below B1.out)
  replace HG := Lib.hid (HG.out.below B1.out)
  replace HU := Lib.hid (HU.out.below B1.out)
  replace BB := Lib.hid (BB.out.trans (B1.out.mono BB.out.size))
  replace D1 := Lib.hid (D1.out.below B2.out)
  replace HG := Lib.hid (HG.out.below B2.out)
  replace HU := Lib.hid (HU.out.below B2.out)
  replace BB := Lib.hid (BB.out.trans (B2.out.mono BB.out.size))
  clear B1 B2
  generalize (w2.alloc (.cells #[.int .i64 T, .int .i64 C, .int .i64 B] 29)).alloc (.cells #[.int .i64 T, .int .i64 B, .int .i64 s4, .int .i64 rm, .int .i64 104, .int .i64 32, .slice ua pn uc, .int .i64 pn] 32) = W3 at *
  generalize w2.heap.size = p7 at *
  have x0 := L7.out.cell 0
  have x1 := L7.out.cell 1
  have x2 := L7.out.cell 2
  simp at x0 x1 x2
  go_wp2_with fail
  have G0 := HG
  have B0 := BB
  have D10 := D1
  have L70 := L7
  have P80 := P8
  have U0 := HU
  have LA := Lib.hid (fun g M W h1 h2 h3 => laid_any T C B a b c _ L g M W3 W G0.out OK.out (HV.out.below B0.out) hl ha h1 (by rw [HPN.out]; exact h2) h3)
  have ME := Lib.hid (fun W h (h' : Below w.heap.size w W) => memory_any T C B _ P W h OK.out (HP.out.below h') HPO.out (by rw [HK.out]; omega))
  rw [HPN.out, HK.out] at ME
  refine (ME.out _ HG.out BB.out).mono ?_
  rintro e w4 ⟨g, rfl, hr, hb⟩
  have R := Lib.hid hr
  clear x0 x1 x2 D1 L7 P8 HG BB HU
  have BW := Lib.hid hb
  have D1 := Lib.hid (D10.out.below hb)
  have L7 := Lib.hid (L70.out.below hb)
  have P8 := Lib.hid (P80.out.below hb)
  have HG := Lib.hid (G0.out.below hb)
  have BB := Lib.hid (B0.out.trans (hb.mono B0.out.size))
  clear hb hr FI ME
  have FO2 := Lib.hid (putsM_ok (putAt pn) FO.out HPO.out (k := kp) (by rw [HK.out]; exact Nat.le_refl _))
  have FL2 := Lib.hid ((putsM_len (putAt pn) (firstL T C B) P kp).trans FL.out)
  obtain ⟨M, hM⟩ : ∃ M, putsM (putAt pn) (firstL T C B) P kp = M := ⟨_, rfl⟩
  rw [hM] at R FL2 FO2
  clear hM FL FO HP HPO HK
  have FL := FL2
  have FO := FO2
  clear FL2 FO2
  have hpn2 : 2 ≤ pn := by have := starts T C B; have := HPN.out; omega
  have z0 := P8.out.cell 0
  have z1 := P8.out.cell 1
  have z2 := P8.out.cell 2
  have z3 := P8.out.cell 3
  have z4 := P8.out.cell 4
  have z5 := P8.out.cell 5
  have z6 := P8.out.cell 6
  have z7 := P8.out.cell 7
  simp at z0 z1 z2 z3 z4 z5 z6 z7
  have y0 := D1.out.cell 0
  have y1 := D1.out.cell 1
  have y2 := D1.out.cell 2
  have y3 := D1.out.cell 3
  simp at y0 y1 y2 y3
  have x0 := L7.out.cell 0
  have x1 := L7.out.cell 1
  have x2 := L7.out.cell 2
  simp at x0 x1 x2
  have qz : ((pn : Int) == 0) = false := by rw [beq_eq_false_iff_ne]; omega
  have qz2 : ¬ pn = 0 := by omega
  go_wp2_with fail
  clear z0 z1 z2 z3 z4 z5 z6 z7 qz qz2
  have LX := LA.out g M w4 (by rw [FL.out]; exact R.out) FL.out BW.out
  rw [FL.out] at LX
  refine LX.mono ?_
  rintro e w5 ⟨rfl, hr, hb⟩
  clear LX LA x0 x1 x2 y0 y1 y2 y3
  clear D1 L7 P8 HG BB BW R
  have BW := Lib.hid hb
  have D1 := Lib.hid (D10.out.below hb)
  have L7 := Lib.hid (L70.out.below hb)
  have P8 := Lib.hid (P80.out.below hb)
  have HG := Lib.hid (G0.out.below hb)
  have BB := Lib.hid (B0.out.trans (hb.mono B0.out.size))
  have R := Lib.hid hr
  clear hb hr
  have FM := Lib.hid (show (laidM T C B M (a, b, c, L)).length = pn by rw [laidM_len, FL.out])
  have FQ := Lib.hid (laidM_ok (T := T) (C := C) (B := B) (a := a) (b := b) FO.out HC.out HL.out hl)
  obtain ⟨M1, hM1⟩ : ∃ X, laidM T C B M (a, b, c, L) = X := ⟨_, rfl⟩
  rw [hM1] at R FM FQ
  clear hM1 FL FO
  obtain ⟨bb, hbb⟩ : ∃ x, decide (chkD T C B (a, b, c, L) = 0) = x := ⟨_, rfl⟩
  rw [hbb]
  clear hbb
  have y0 := D1.out.cell 0
  have y1 := D1.out.cell 1
  have y2 := D1.out.cell 2
  have y3 := D1.out.cell 3
  simp at y0 y1 y2 y3
  go_wp2_with fail
  refine (ref_any a b _).mono ?_
  rintro e w6 ⟨rfl, hw⟩
  obtain rfl := hw
  clear y0 y1 y2 y3
  have RB := Lib.hid (refI_ok a b)
  obtain ⟨r, hr⟩ : ∃ x, (refI a b).1 = x := ⟨_, rfl⟩
  obtain ⟨r2, hr2⟩ : ∃ x, (refI a b).2 = x := ⟨_, rfl⟩
  rw [hr] at RB ⊢
  rw [hr2]
  clear hr hr2
  have RMY := Lib.hid (fun x W (h : Below W3.heap.size W3 W) => rmay_any T C B (.slice ua pn uc) x W OK.out (by rw [HPN.out]; exact U0.out.below h))
  unfold PlV at RMY
  rw [HPN.out, HS4.out, HRM.out] at RMY
  have F0 := Lib.hid (show heldM T C B r M1 L 0 = M1 from rfl)
  have F1 := Lib.hid (fun j (h : j % 3 = 2) => (show heldM T C B r M1 L (j + 1) = heldM T C B r M1 L j from if_neg (fun h' => h'.1 h)))
  have F2 := Lib.hid (fun j (h : mayI T C B L[j]!.1 = false) => (show heldM T C B r M1 L (j + 1) = heldM T C B r M1 L j from if_neg (fun h' => by rw [h] at h'; exact Bool.noConfusion h'.2)))
  have F5 := Lib.hid (fun j (h : ¬ j % 3 = 2) (h' : mayI T C B L[j]!.1 = true) => (show heldM T C B r M1 L (j + 1) = (heldM T C B r M1 L j).set (L[j]!.1).toNat (heldW r L[j]!) from if_pos ⟨h, h'⟩))
  have F3 := Lib.hid (fun j => (heldM_len T C B r M1 L j).trans FM.out)
  have F4 := Lib.hid (fun j (h : j ≤ n) => heldM_ok T C B FQ.out HL.out RB.out (k := j) (by rw [HN.out]; exact h))
  obtain ⟨F, hF⟩ : ∃ F : Nat → List Wd, (fun k => heldM T C B r M1 L k) = F := ⟨_, rfl⟩
  have hF' : ∀ k, heldM T C B r M1 L k = F k := fun k => by rw [← hF]
  simp only [hF'] at F0 F1 F2 F3 F4 F5
  clear hF hF' FM FQ HL HC RB
  go_wp2_with fail
  go_loopw [13] (fun iv wr => ∃ j : Nat, j ≤ n ∧ iv = .int .i64 j ∧ RowK wdE 47 W3.heap.size wr (.slice (some ⟨g, 0, none⟩) pn pn) (F j) ∧ Below W3.heap.size W3 wr) (fun iv _ => n - (intOf iv).toNat)
  case atStart => exact ⟨0, by omega, rfl, by rw [F0.out]; exact R.out, BW.out⟩
  case round =>
    obtain ⟨j, hj, rfl, h1, h2⟩ := hrel
    clear R D1 L7 P8 HG BB BW
    have R := Lib.hid h1
    have BW := Lib.hid h2
    have D1 := Lib.hid (D10.out.below h2)
    have L7 := Lib.hid (L70.out.below h2)
    have P8 := Lib.hid (P80.out.below h2)
    have HG := Lib.hid (G0.out.below h2)
    have BB := Lib.hid (B0.out.trans (h2.mono B0.out.size))
    clear h1 h2
    have y0 := D1.out.cell 0
    have y1 := D1.out.cell 1
    have y2 := D1.out.cell 2
    have y3 := D1.out.cell 3
    simp at y0 y1 y2 y3
    by_cases hlt : j < n
    · have FX := Lib.hid (F1.out j)
      have FY := Lib.hid (F2.out j)
      have FZ := Lib.hid (F5.out j)
      obtain ⟨vb, voff, rfl, hvb, hvl, hc⟩ := HV.out.addr hlt
      have CC := Lib.hid (fun W' (h : Below w.heap.size w W') => (show W'.cell? ⟨vb, voff + j * 6, none⟩ = some (.int .i64 (L[j]!).1) ∧ W'.cell? ⟨vb, voff + j * 6 + 1, none⟩ = some (.int .i64 (L[j]!).2.1.1) ∧ W'.cell? ⟨vb, voff + j * 6 + 2, none⟩ = some (.int .u32 (L[j]!).2.1.2.1) ∧ W'.cell? ⟨vb, voff + j * 6 + 3, none⟩ = some (.int .u32 (L[j]!).2.1.2.2) ∧ W'.cell? ⟨vb, voff + j * 6 + 4, none⟩ = some (.int .i64 (L[j]!).2.2.1) ∧ W'.cell? ⟨vb, voff + j * 6 + 5, none⟩ = some (.bool (L[j]!).2.2.2) from by
        obtain ⟨t0, t1, t2, t3, t4, t5⟩ := en_cells hc (by rw [hvl]; exact hlt)
        exact ⟨(h.cell hvb).trans t0, (h.cell hvb).trans t1, (h.cell hvb).trans t2, (h.cell hvb).trans t3, (h.cell hvb).trans t4, (h.cell hvb).trans t5⟩))
      clear hc hvl hvb
      obtain ⟨z, hz⟩ : ∃ z, L[j]! = z := ⟨_, rfl⟩
      rw [hz] at CC FY FZ
      clear hz
      obtain ⟨e0, ⟨e1, e2, e3⟩, e4, e5⟩ := z
      unfold heldW at FZ
      simp only at CC FY FZ
      have q40 : (j : Int) < 40 := by omega
      obtain ⟨c0, c1, c2, c3, c4, c5⟩ := CC.out _ BB.out
      by_cases h3 : j % 3 = 2
      · have m1 : (j : Int).tmod 3 = 2 := by rw [Int.tmod_eq_emod_of_nonneg (by omega)]; omega
        have m2 : (j : Int) % 3 = 2 := by omega
        have FX2 := Lib.hid (FX.out h3)
        clear h3
        go_wp2_with fail
        go_roundw
        case rel => exact ⟨j + 1, by omega, by go_num, by rw [FX2.out]; exact R.out, BW.out⟩
        case measure => simp [intOf]; omega
      replace FZ := Lib.hid (FZ.out h3)
      have m1 : (j : Int).tmod 3 = ((j % 3 : Nat) : Int) := by rw [Int.tmod_eq_emod_of_nonneg (by omega)]; simp
      have m2 : (j : Int) % 3 = ((j % 3 : Nat) : Int) := by simp
      obtain ⟨y, hy⟩ : ∃ x, j % 3 = x := ⟨_, rfl⟩
      rw [hy] at m1 m2 h3
      clear hy FX
      have m3 : ((y : Int) == 2) = false := by rw [beq_eq_false_iff_ne]; omega
      have m4 : ((y : Int) != 2) = true := by rw [bne_iff_ne]; omega
      clear h3
      have x0 := P8.out.cell 0
      have x1 := P8.out.cell 1
      have x2 := P8.out.cell 2
      have x3 := P8.out.cell 3
      have x4 := P8.out.cell 4
      have x5 := P8.out.cell 5
      have x6 := P8.out.cell 6
      have x7 := P8.out.cell 7
      simp at x0 x1 x2 x3 x4 x5 x6 x7
      go_wp2_with fail
      refine (RMY.out e0 _ BW.out).mono ?_
      rintro e w7 ⟨rfl, hb⟩
      clear x0 x1 x2 x3 x4 x5 x6 x7 y0 y1 y2 y3 c0 c1 c2 c3 c4 c5 m1 m2 m3 m4
      replace R := Lib.hid (R.out.below hb)
      replace D1 := Lib.hid (D1.out.below hb)
      replace L7 := Lib.hid (L7.out.below hb)
      replace P8 := Lib.hid (P8.out.below hb)
      replace HG := Lib.hid (HG.out.below hb)
      replace BB := Lib.hid (BB.out.trans (hb.mono BB.out.size))
      replace BW := Lib.hid (BW.out.trans (hb.mono BW.out.size))
      clear hb
      cases hm : mayI T C B e0 with
      | false =>
        have FY2 := Lib.hid (FY.out hm)
        clear hm
        go_wp2_with fail
        go_roundw
        case rel => exact ⟨j + 1, by omega, by go_num, by rw [FY2.out]; exact R.out, BW.out⟩
        case measure => simp [intOf]; omega
      | true =>
      replace FZ := Lib.hid (FZ.out hm)
      obtain ⟨g1, g2⟩ := may_size OK.out hm
      rw [HPN.out] at g2
      clear hm FY F1 F2 F5
      obtain ⟨x, rfl⟩ : ∃ k : Nat, e0 = k := ⟨e0.toNat, by omega⟩
      rw [Int.toNat_natCast] at FZ
      have g3 : x < pn := by omega
      have hpj : x < (F j).length := by rw [F3.out]; omega
      obtain ⟨⟨d0, d1, d2⟩, f0, f1, f2⟩ := R.out.at3 (i := x) hpj
      obtain ⟨c0, c1, c2, c3, c4, c5⟩ := CC.out _ BB.out
      have y0 := D1.out.cell 0
      have y1 := D1.out.cell 1
      have y2 := D1.out.cell 2
      have y3 := D1.out.cell 3
      simp at y0 y1 y2 y3
      have mixed : Tryd.prog.follows Departure.mixedOrders = true := by kernel_rfl
      go_upto_region 16 with fail
      go_big_region_o
      go_wp2_with fail
      go_roundw
      case rel => exact ⟨j + 1, by omega, by go_num, by rw [FZ.out]; exact (R.out.put3 hpj e1 e2 r).below ((Below.refl _ _).drew), (R.out.put3Below BW.out x e1 e2 r).drew⟩
      case measure => simp [intOf]; omega
    obtain rfl : j = n := by omega
    obtain ⟨W8, hW8⟩ : ∃ W8, W8 = wr := ⟨_, rfl⟩
    subst hW8
    have FN := Lib.hid (F3.out j)
    have FR := Lib.hid (F4.out j (Nat.le_refl _))
    clear F0 F1 F2 F3 F4 F5 HV HN
    obtain ⟨M2, hM2⟩ : ∃ X, F j = X := ⟨_, rfl⟩
    rw [hM2] at R FN FR
    clear hM2
    have LG := Lib.hid (fun x W h (h' : Below W8.heap.size W8 W) => logical_any T C B _ M2 x W h OK.out (R.out.below h').sk (by rw [FN.out]; omega) FR.out)
    have RL := Lib.hid (fun (k : Nat) W (hk : k < pn) (h' : Below W8.heap.size W8 W) => rlogical_any T C B (.slice ua pn uc) _ M2 k W OK.out (by rw [HPN.out]; exact (U0.out.below BW.out).below h') (R.out.below h').sk (by rw [FN.out, HPN.out]; exact Nat.le_refl _) (by rw [FN.out]; omega) FR.out (by rw [FN.out]; exact hk))
    unfold PlV at RL
    rw [HPN.out, HS4.out, HRM.out] at RL
    have LS := Lib.hid (fun W h (h' : Below W8.heap.size W8 W) => logical_any T C B (.slice (some ⟨g, 0 + 1 * wdE.k, none⟩) (pn - 1) (pn - 1)) ((M2.take pn).drop 1) 0 W h OK.out ((R.out.below h').sk.part 1 pn (pn - 1) (by omega) (Nat.le_refl _) (Nat.le_refl _)) (by rw [List.length_drop, List.length_take, FN.out]; omega) (fun x hx => FR.out x (List.mem_of_mem_take (List.mem_of_mem_drop hx))))
    obtain ⟨ls1, ls2⟩ := log_short OK.out (M := (M2.take pn).drop 1) (x := 0) (by rw [List.length_drop, List.length_take, FN.out, HPN.out]; omega)
    rw [show 0 + 1 * wdE.k = 3 from rfl, ls1, ls2] at LS
    clear ls1 ls2
    unfold wdV at LG RL LS
    simp only at LS
    have LNO := Lib.hid (fun x h => log_no OK.out (M := M2) (x := x) (by rw [FN.out, HPN.out]; exact Nat.le_refl _) h)
    have LYES := Lib.hid (fun x h => log_yes OK.out (M := M2) (x := x) (by rw [FN.out, HPN.out]; exact Nat.le_refl _) h)
    have MEND := Lib.hid (may_end OK.out)
    rw [HPN.out] at MEND
    have L78 := L7
    have P88 := P8
    have HG8 := HG
    have B08 := BB
    have BW8 := BW
    clear R D1 L7 P8 HG BB BW D10 L70 P80 G0 B0 U0 FR
    go_wp2_with fail
    clear y0 y1 y2 y3
    go_loopw [15] (fun iv wr => ∃ k : Nat, k ≤ pn ∧ iv = .int .i64 k ∧ Lat W8 wr) (fun iv _ => pn - (intOf iv).toNat)
    case atStart => exact ⟨0, by omega, rfl, Below.refl _ _⟩
    case round =>
      obtain ⟨k, hk, rfl, h1⟩ := hrel
      have B8 := Lib.hid h1
      have L7 := Lib.hid (L78.out.below (Lat.out8 h1))
      have P8 := Lib.hid (P88.out.below (Lat.out8 h1))
      have HG := Lib.hid (HG8.out.below (Lat.out8 h1))
      have BB := Lib.hid (B08.out.trans ((Lat.out8 h1).mono B08.out.size))
      have BW := Lib.hid (BW8.out.trans ((Lat.out8 h1).mono BW8.out.size))
      clear h1
      have x0 := P8.out.cell 0
      have x1 := P8.out.cell 1
      have x2 := P8.out.cell 2
      have x3 := P8.out.cell 3
      have x4 := P8.out.cell 4
      have x5 := P8.out.cell 5
      have x6 := P8.out.cell 6
      have x7 := P8.out.cell 7
      simp at x0 x1 x2 x3 x4 x5 x6 x7
      have y0 := L7.out.cell 0
      have y1 := L7.out.cell 1
      have y2 := L7.out.cell 2
      simp at y0 y1 y2
      by_cases hlt : k < pn
      · go_wp2_with fail
        refine (LG.out k _ HG.out (Lat.out8 B8.out)).mono ?_
        rintro e w6 ⟨rfl, hb⟩
        clear x0 x1 x2 x3 x4 x5 x6 x7 y0 y1 y2
        replace L7 := Lib.hid (L7.out.below hb)
        replace P8 := Lib.hid (P8.out.below hb)
        replace HG := Lib.hid (HG.out.below hb)
        replace BB := Lib.hid (BB.out.trans (hb.mono BB.out.size))
        replace BW := Lib.hid (BW.out.trans (hb.mono BW.out.size))
        replace B8 := Lib.hid (Lat.below B8.out hb)
        clear hb
        have NO := Lib.hid (LNO.out k)
        have YES := Lib.hid (LYES.out k)
        rw [Int.toNat_natCast] at YES
        replace RL := Lib.hid (RL.out k)
        obtain ⟨lw, hlw⟩ : ∃ x, logW T C B M2 k = x := ⟨_, rfl⟩
        obtain ⟨le, hle⟩ : ∃ x, logE T C B M2 k = x := ⟨_, rfl⟩
        rw [hlw, hle] at NO YES ⊢
        clear hlw hle
        obtain ⟨l0, l1, l2⟩ := lw
        simp only
        go_upto_region 21 with fail
        have X16 := Lib.hid (Box.new w6 #[.int .i64 l0, .int .u32 l1, .int .u32 l2] 47 rfl)
        have B1 := Lib.hid (below1 w6 (.cells #[.int .i64 l0, .int .u32 l1, .int .u32 l2] 47))
        replace L7 := Lib.hid (L7.out.below B1.out)
        replace P8 := Lib.hid (P8.out.below B1.out)
        replace HG := Lib.hid (HG.out.below B1.out)
        replace BB := Lib.hid (BB.out.trans (B1.out.mono BB.out.size))
        replace BW := Lib.hid (BW.out.trans (B1.out.mono BW.out.size))
        replace B8 := Lib.hid (Lat.below B8.out B1.out)
        clear B1
        generalize w6.alloc (.cells #[.int .i64 l0, .int .u32 l1, .int .u32 l2] 47) = W9 at *
        generalize w6.heap.size = p16 at *
        have x0 := P8.out.cell 0
        have x1 := P8.out.cell 1
        have x2 := P8.out.cell 2
        have x3 := P8.out.cell 3
        have x4 := P8.out.cell 4
        have x5 := P8.out.cell 5
        have x6 := P8.out.cell 6
        have x7 := P8.out.cell 7
        simp at x0 x1 x2 x3 x4 x5 x6 x7
        go_wp2_with fail
        refine (RMY.out k _ BW.out).mono ?_
        rintro e w7 ⟨rfl, hb⟩
        clear x0 x1 x2 x3 x4 x5 x6 x7
        replace L7 := Lib.hid (L7.out.below hb)
        replace P8 := Lib.hid (P8.out.below hb)
        replace HG := Lib.hid (HG.out.below hb)
        replace X16 := Lib.hid (X16.out.below hb)
        replace BB := Lib.hid (BB.out.trans (hb.mono BB.out.size))
        replace BW := Lib.hid (BW.out.trans (hb.mono BW.out.size))
        replace B8 := Lib.hid (Lat.below B8.out hb)
        clear hb
        cases hm : mayI T C B (k : Int) with
        | false =>
          obtain ⟨n1, n2⟩ := NO.out hm
          injection n2 with n2 n3
          injection n3 with n3 n4
          subst n1 n2 n3 n4
          clear NO YES hm RL
          have qN : ∀ w, (binOp .neq 47 (.agg #[.int .i64 0, .int .u32 0, .int .u32 0]) (.agg #[.int .i64 0, .int .u32 0, .int .u32 0])).run Tryd.prog w = .ok (.bool false) w := fun w => by rw [neqW, eqW_dec]; rfl
          have x0 := X16.out.cell 0
          have x1 := X16.out.cell 1
          have x2 := X16.out.cell 2
          simp at x0 x1 x2
          go_wp2_with fail
          go_roundw
          case rel => exact ⟨k + 1, by omega, by go_num, B8.out⟩
          case measure => simp [intOf]; omega
        | true =>
        obtain ⟨n1, n2⟩ := YES.out hm
        rw [← n2] at RL
        subst n1
        clear NO YES hm n2
        simp only at RL
        have qN : ∀ w, (binOp .neq 47 (.agg #[.int .i64 l0, .int .u32 l1, .int .u32 l2]) (.agg #[.int .i64 l0, .int .u32 l1, .int .u32 l2])).run Tryd.prog w = .ok (.bool false) w := fun w => by rw [neqW, eqW_dec, decide_eq_true rfl]; rfl
        have BW3 := Lib.hid (show Lat W3 w7 from BW.out)
        clear HG L7 BW
        go_upto_region 24 with fail
        replace X16 := Lib.hid (X16.out.below ((Below.refl _ _).drew))
        replace P8 := Lib.hid (P8.out.below ((Below.refl _ _).drew))
        replace BW3 := Lib.hid (Lat.below BW3.out ((Below.refl _ _).drew))
        replace B8 := Lib.hid (B8.out.below ((Below.refl _ _).drew))
        replace BB := Lib.hid (BB.out.trans (((Below.refl _ _).drew).mono BB.out.size))
        refine wp_region_held_drew (S := fun w' => w'.cell? ⟨p16, 0, none⟩ = some (.int .i64 l0) ∧ w'.cell? ⟨p16, 1, none⟩ = some (.int .u32 l1) ∧ w'.cell? ⟨p16, 2, none⟩ = some (.int .u32 l2) ∧ w'.cell? ⟨p7 + 1, 0, none⟩ = some (.int .i64 T) ∧ w'.cell? ⟨p7 + 1, 1, none⟩ = some (.int .i64 B) ∧ w'.cell? ⟨p7 + 1, 2, none⟩ = some (.int .i64 s4) ∧ w'.cell? ⟨p7 + 1, 3, none⟩ = some (.int .i64 rm) ∧ w'.cell? ⟨p7 + 1, 4, none⟩ = some (.int .i64 104) ∧ w'.cell? ⟨p7 + 1, 5, none⟩ = some (.int .i64 32) ∧ w'.cell? ⟨p7 + 1, 6, none⟩ = some (.slice ua pn uc) ∧ w'.cell? ⟨p7 + 1, 7, none⟩ = some (.int .i64 pn)) (by kernel_rfl) ⟨(X16.out.cell 0), (X16.out.cell 1), (X16.out.cell 2), (P8.out.cell 0), (P8.out.cell 1), (P8.out.cell 2), (P8.out.cell 3), (P8.out.cell 4), (P8.out.cell 5), (P8.out.cell 6), (P8.out.cell 7)⟩ (fun hHeld => ?_)
        generalize World.drew w7 = V30 at *
        refine wpAnyH_take (i := 0) (oi := { dst := some 132, op := Op.move (Operand.tmp 17), type := 36, pos := "law.go:222", after := #[], guard := none }) (v := ?d31_1xv0) rfl (by kernel_rfl) (by kernel_rfl) (by kernel_rfl) (fun _ _ _ h => h) (Or.inl ⟨by rfl, ?d31_1xy0⟩) (by assumption) ?d31_1xr0
        case d31_1xy0 => (intro w hSw; (try dsimp only at hSw); go_simp; try with_reducible rfl)
        (try simp only [Act.put])
        (try simp only [List.setIfInBounds_toArray])
        (try simp only [List.set_cons_succ])
        (try simp only [List.set_cons_zero])
        refine wpAnyH_take (i := 1) (oi := { dst := some 133, op := Op.binOp BinOp.neq 36 (Operand.tmp 132) (Operand.const (Value.int IntKind.i64 0)) 36, type := 4, pos := "law.go:222", after := #[{ on := 0, ground := Ground.data }], guard := none }) (v := ?d31_2xv1) rfl (by kernel_rfl) (by kernel_rfl) (by kernel_rfl) (fun _ _ _ h => h) (Or.inl ⟨by rfl, ?d31_2xy1⟩) (by assumption) ?d31_2xr1
        case d31_2xy1 => (intro w hSw; (try dsimp only at hSw); go_simp; try with_reducible rfl)
        (try simp only [Act.put])
        (try simp only [List.setIfInBounds_toArray])
        (try simp only [List.set_cons_succ])
        (try simp only [List.set_cons_zero])
        refine wpAnyH_take (i := 2) (oi := { dst := some 134, op := Op.move (Operand.tmp 133), type := 4, pos := "law.go:222", after := #[{ on := 1, ground := Ground.data }], guard := none }) (v := ?d31_3xv2) rfl (by kernel_rfl) (by kernel_rfl) (by kernel_rfl) (fun _ _ _ h => h) (Or.inl ⟨by rfl, ?d31_3xy2⟩) (by assumption) ?d31_3xr2
        case d31_3xy2 => (intro w hSw; (try dsimp only at hSw); go_simp; try with_reducible rfl)
        (try simp only [Act.put])
        (try simp only [List.setIfInBounds_toArray])
        (try simp only [List.set_cons_succ])
        (try simp only [List.set_cons_zero])
        refine wpAnyH_take (i := 3) (oi := { dst := some 135, op := Op.load 47 (Operand.tmp 16), type := 47, pos := "law.go:222", after := #[{ on := 2, ground := Ground.guard }], guard := some (2, false) }) (v := ?d31_4xv3) rfl (by kernel_rfl) (by kernel_rfl) (by kernel_rfl) (fun _ _ _ h => h) (Or.inl ⟨by rfl, ?d31_4xy3⟩) (by assumption) ?d31_4xr3
        case d31_4xy3 => (intro w hSw; (try dsimp only at hSw); go_simp; try with_reducible rfl)
        (try simp only [Act.put])
        (try simp only [List.setIfInBounds_toArray])
        (try simp only [List.set_cons_succ])
        (try simp only [List.set_cons_zero])
        refine wpAnyH_take (i := 4) (oi := { dst := some 136, op := Op.load 32 (Operand.tmp 8), type := 32, pos := "law.go:222", after := #[{ on := 2, ground := Ground.guard }], guard := some (2, false) }) (v := ?d31_5xv4) rfl (by kernel_rfl) (by kernel_rfl) (by kernel_rfl) (fun _ _ _ h => h) (Or.inl ⟨by rfl, ?d31_5xy4⟩) (by assumption) ?d31_5xr4
        case d31_5xy4 => (intro w hSw; (try dsimp only at hSw); go_simp; try with_reducible rfl)
        (try simp only [Act.put])
        (try simp only [List.setIfInBounds_toArray])
        (try simp only [List.set_cons_succ])
        (try simp only [List.set_cons_zero])
        refine wpAnyH_take (i := 5) (oi := { dst := some 137, op := Op.move (Operand.tmp 10), type := 35, pos := "law.go:222", after := #[{ on := 2, ground := Ground.guard }], guard := some (2, false) }) (v := ?d31_6xv5) rfl (by kernel_rfl) (by kernel_rfl) (by kernel_rfl) (fun _ _ _ h => h) (Or.inl ⟨by rfl, ?d31_6xy5⟩) (by assumption) ?d31_6xr5
        case d31_6xy5 => (intro w hSw; (try dsimp only at hSw); go_simp; try with_reducible rfl)
        (try simp only [Act.put])
        (try simp only [List.setIfInBounds_toArray])
        (try simp only [List.set_cons_succ])
        (try simp only [List.set_cons_zero])
        refine wpAnyH_take (i := 6) (oi := { dst := some 138, op := Op.move (Operand.tmp 15), type := 3, pos := "law.go:222", after := #[{ on := 2, ground := Ground.guard }], guard := some (2, false) }) (v := ?d31_7xv6) rfl (by kernel_rfl) (by kernel_rfl) (by kernel_rfl) (fun _ _ _ h => h) (Or.inl ⟨by rfl, ?d31_7xy6⟩) (by assumption) ?d31_7xr6
        case d31_7xy6 => (intro w hSw; (try dsimp only at hSw); go_simp; try with_reducible rfl)
        (try simp only [Act.put])
        (try simp only [List.setIfInBounds_toArray])
        (try simp only [List.set_cons_succ])
        (try simp only [List.set_cons_zero])
        refine wpAnyH_ready (rs := [7]) (by kernel_rfl) (by simp) ?_
        refine AllReadyH.cons (o := { dst := some 139, op := Op.call { callee := Callee.value (Operand.func 32), args := #[Operand.tmp 136, Operand.tmp 137, Operand.tmp 138], argTypes := #[32, 35, 3] }, type := 47, pos := "law.go:222", after := #[{ on := 4, ground := Ground.data }, { on := 5, ground := Ground.data }, { on := 6, ground := Ground.data }, { on := 2, ground := Ground.chain }, { on := 2, ground := Ground.guard }], guard := some (2, false) }) rfl (fun K hK => ?_) AllReadyH.nil
        go_simp
        go_at_call 32
        refine (RL.out _ hlt (Lat.out8 B8.out)).mono ?_
        rintro e v31 ⟨rfl, hb⟩
        replace X16 := Lib.hid (X16.out.below (hb))
        replace P8 := Lib.hid (P8.out.below (hb))
        replace BW3 := Lib.hid (Lat.below BW3.out (hb))
        replace B8 := Lib.hid (B8.out.below (hb))
        replace BB := Lib.hid (BB.out.trans ((hb).mono BB.out.size))
        clear hb
        go_simp
        refine hK.out _ _ ?_ (fun hHeld => ?_)
        · exact ⟨(X16.out.cell 0), (X16.out.cell 1), (X16.out.cell 2), (P8.out.cell 0), (P8.out.cell 1), (P8.out.cell 2), (P8.out.cell 3), (P8.out.cell 4), (P8.out.cell 5), (P8.out.cell 6), (P8.out.cell 7)⟩
        clear hK K
        (try simp only [Act.put])
        (try simp only [List.setIfInBounds_toArray])
        (try simp only [List.set_cons_succ])
        (try simp only [List.set_cons_zero])
        refine wpAnyH_take (i := 8) (oi := { dst := some 140, op := Op.binOp BinOp.neq 47 (Operand.tmp 135) (Operand.tmp 139) 47, type := 4, pos := "law.go:222", after := #[{ on := 3, ground := Ground.data }, { on := 7, ground := Ground.data }, { on := 2, ground := Ground.guard }], guard := some (2, false) }) (v := ?d32_8xv8) rfl (by kernel_rfl) (by kernel_rfl) (by kernel_rfl) (fun _ _ _ h => h) (Or.inl ⟨by rfl, ?d32_8xy8⟩) (by assumption) ?d32_8xr8
        case d32_8xy8 => (intro w hSw; (try dsimp only at hSw); go_simp; try with_reducible rfl)
        (try simp only [Act.put])
        (try simp only [List.setIfInBounds_toArray])
        (try simp only [List.set_cons_succ])
        (try simp only [List.set_cons_zero])
        refine wpAnyH_take (i := 9) (oi := { dst := some 141, op := Op.pick (Operand.tmp 134) (Operand.const (Value.bool true)) (Operand.tmp 140), type := 4, pos := "law.go:222", after := #[{ on := 2, ground := Ground.data }, { on := 8, ground := Ground.data }], guard := none }) (v := ?d32_9xv9) rfl (by kernel_rfl) (by kernel_rfl) (by kernel_rfl) (fun _ _ _ h => h) (Or.inl ⟨by rfl, ?d32_9xy9⟩) (by assumption) ?d32_9xr9
        case d32_9xy9 => (intro w hSw; (try dsimp only at hSw); go_simp; try with_reducible rfl)
        (try simp only [Act.put])
        (try simp only [List.setIfInBounds_toArray])
        (try simp only [List.set_cons_succ])
        (try simp only [List.set_cons_zero])
        refine wpAnyH_done (by kernel_rfl) ?_ _
        clear hHeld
        go_wp2_with fail
        go_roundw
        case rel => exact ⟨k + 1, by omega, by go_num, B8.out⟩
        case measure => simp [intOf]; omega
      obtain rfl : k = pn := by omega
      go_wp2_with fail
      refine (LG.out k _ HG.out (Lat.out8 B8.out)).mono ?_
      rintro e w6 ⟨rfl, hb⟩
      clear x0 x1 x2 x3 x4 x5 x6 x7 y0 y1 y2
      replace L7 := Lib.hid (L7.out.below hb)
      replace P8 := Lib.hid (P8.out.below hb)
      replace HG := Lib.hid (HG.out.below hb)
      replace BB := Lib.hid (BB.out.trans (hb.mono BB.out.size))
      replace BW := Lib.hid (BW.out.trans (hb.mono BW.out.size))
      replace B8 := Lib.hid (Lat.below B8.out hb)
      clear hb
      obtain ⟨n1, n2⟩ := LNO.out _ MEND.out
      rw [n1, n2]
      clear n1 n2
      simp only
      go_upto_region 27 with fail
      have B1 := Lib.hid (below1 w6 (.cells #[.int .i64 0, .int .u32 0, .int .u32 0] 47))
      replace L7 := Lib.hid (L7.out.below B1.out)
      replace P8 := Lib.hid (P8.out.below B1.out)
      replace HG := Lib.hid (HG.out.below B1.out)
      replace BB := Lib.hid (BB.out.trans (B1.out.mono BB.out.size))
      replace BW := Lib.hid (BW.out.trans (B1.out.mono BW.out.size))
      replace B8 := Lib.hid (Lat.below B8.out B1.out)
      clear B1
      generalize w6.alloc (.cells #[.int .i64 0, .int .u32 0, .int .u32 0] 47) = w9 at *
      generalize w6.heap.size = p18 at *
      go_cut [21] (fun s wx => s = .int .i64 1 ∧ Below w.heap.size w wx)
      case first =>
        have qn1 : (1 : Int) ≤ (k : Int) := by omega
        have qn2 : ¬ k = 1 := by omega
        have qn3 : ¬ (k : Int) = 1 := by omega
        clear HG P8 BW RL LG
        replace L7 := Lib.hid (L7.out.below ((Below.refl _ _).drew))
        replace B8 := Lib.hid (B8.out.below ((Below.refl _ _).drew))
        replace BB := Lib.hid (BB.out.trans (((Below.refl _ _).drew).mono BB.out.size))
        refine wp_region_held_drew (S := fun w' => w'.cell? ⟨p7, 0, none⟩ = some (.int .i64 T) ∧ w'.cell? ⟨p7, 1, none⟩ = some (.int .i64 C) ∧ w'.cell? ⟨p7, 2, none⟩ = some (.int .i64 B)) (by kernel_rfl) ⟨(L7.out.cell 0), (L7.out.cell 1), (L7.out.cell 2)⟩ (fun hHeld => ?_)
        generalize World.drew w9 = V60 at *
        refine wpAnyH_take (i := 0) (oi := { dst := some 151, op := Op.load 29 (Operand.tmp 7), type := 29, pos := "law.go:227", after := #[], guard := none }) (v := ?d61_1xv0) rfl (by kernel_rfl) (by kernel_rfl) (by kernel_rfl) (fun _ _ _ h => h) (Or.inl ⟨by rfl, ?d61_1xy0⟩) (by assumption) ?d61_1xr0
        case d61_1xy0 => (intro w hSw; (try dsimp only at hSw); go_simp; try with_reducible rfl)
        (try simp only [Act.put])
        (try simp only [List.setIfInBounds_toArray])
        (try simp only [List.set_cons_succ])
        (try simp only [List.set_cons_zero])
        refine wpAnyH_take (i := 1) (oi := { dst := some 152, op := Op.move (Operand.tmp 10), type := 35, pos := "law.go:227", after := #[], guard := none }) (v := ?d61_2xv1) rfl (by kernel_rfl) (by kernel_rfl) (by kernel_rfl) (fun _ _ _ h => h) (Or.inl ⟨by rfl, ?d61_2xy1⟩) (by assumption) ?d61_2xr1
        case d61_2xy1 => (intro w hSw; (try dsimp only at hSw); go_simp; try with_reducible rfl)
        (try simp only [Act.put])
        (try simp only [List.setIfInBounds_toArray])
        (try simp only [List.set_cons_succ])
        (try simp only [List.set_cons_zero])
        refine wpAnyH_take (i := 2) (oi := { dst := some 153, op := Op.slice 35 (Operand.tmp 152) (some (Operand.const (Value.int IntKind.i64 1))) none none, type := 35, pos := "law.go:227", after := #[{ on := 1, ground := Ground.data }], guard := none }) (v := ?d61_3xv2) rfl (by kernel_rfl) (by kernel_rfl) (by kernel_rfl) (fun _ _ _ h => h) (Or.inl ⟨by rfl, ?d61_3xy2⟩) (by assumption) ?d61_3xr2
        case d61_3xy2 => (intro w hSw; (try dsimp only at hSw); go_simp; try with_reducible rfl)
        (try simp only [Act.put])
        (try simp only [List.setIfInBounds_toArray])
        (try simp only [List.set_cons_succ])
        (try simp only [List.set_cons_zero])
        refine wpAnyH_ready (rs := [3, 7]) (by kernel_rfl) (by simp) ?_
        refine AllReadyH.cons (o := { dst := some 154, op := Op.call { callee := Callee.value (Operand.func 31), args := #[Operand.tmp 151, Operand.tmp 153, Operand.const (Value.int IntKind.i64 0)], argTypes := #[29, 35, 44] }, type := 74, pos := "law.go:227", after := #[{ on := 0, ground := Ground.data }, { on := 2, ground := Ground.data }], guard := none }) rfl (fun K hK => ?_) ?_
        · skip
          go_simp
          go_at_call 31
          refine (LS.out _ (HG8.out.below (Lat.out8 B8.out)) (Lat.out8 B8.out)).mono ?_
          rintro e v61 ⟨rfl, hb⟩
          replace L7 := Lib.hid (L7.out.below (hb))
          replace B8 := Lib.hid (B8.out.below (hb))
          replace BB := Lib.hid (BB.out.trans ((hb).mono BB.out.size))
          clear hb
          go_simp
          refine hK.out _ _ ?_ (fun hHeld => ?_)
          · exact ⟨(L7.out.cell 0), (L7.out.cell 1), (L7.out.cell 2)⟩
          clear hK K
          (try simp only [Act.put])
          (try simp only [List.setIfInBounds_toArray])
          (try simp only [List.set_cons_succ])
          (try simp only [List.set_cons_zero])
          refine wpAnyH_take (i := 4) (oi := { dst := some 150, op := Op.move (Operand.tmp 154), type := 74, pos := "law.go:227", after := #[{ on := 3, ground := Ground.data }], guard := none }) (v := ?d62_4xv4) rfl (by kernel_rfl) (by kernel_rfl) (by kernel_rfl) (fun _ _ _ h => h) (Or.inl ⟨by rfl, ?d62_4xy4⟩) (by assumption) ?d62_4xr4
          case d62_4xy4 => (intro w hSw; (try dsimp only at hSw); go_simp; try with_reducible rfl)
          (try simp only [Act.put])
          (try simp only [List.setIfInBounds_toArray])
          (try simp only [List.set_cons_succ])
          (try simp only [List.set_cons_zero])
          refine wpAnyH_take (i := 5) (oi := { dst := some 155, op := Op.extract (Operand.tmp 150) 0, type := 47, pos := "law.go:227", after := #[{ on := 4, ground := Ground.data }], guard := none }) (v := ?d62_5xv5) rfl (by kernel_rfl) (by kernel_rfl) (by kernel_rfl) (fun _ _ _ h => h) (Or.inl ⟨by rfl, ?d62_5xy5⟩) (by assumption) ?d62_5xr5
          case d62_5xy5 => (intro w hSw; (try dsimp only at hSw); go_simp; try with_reducible rfl)
          (try simp only [Act.put])
          (try simp only [List.setIfInBounds_toArray])
          (try simp only [List.set_cons_succ])
          (try simp only [List.set_cons_zero])
          refine wpAnyH_take (i := 6) (oi := { dst := some 156, op := Op.extract (Operand.tmp 150) 1, type := 36, pos := "law.go:227", after := #[{ on := 4, ground := Ground.data }, { on := 8, ground := Ground.gcOnly Departure.lateStores }], guard := none }) (v := ?d62_6xv6) rfl (by kernel_rfl) (by kernel_rfl) (by kernel_rfl) (fun _ _ _ h => h) (Or.inl ⟨by rfl, ?d62_6xy6⟩) (by assumption) ?d62_6xr6
          case d62_6xy6 => (intro w hSw; (try dsimp only at hSw); go_simp; try with_reducible rfl)
          (try simp only [Act.put])
          (try simp only [List.setIfInBounds_toArray])
          (try simp only [List.set_cons_succ])
          (try simp only [List.set_cons_zero])
          refine wpAnyH_ready (rs := [7]) (by kernel_rfl) (by simp) ?_
          refine AllReadyH.cons (o := { dst := some 20, op := Op.alloc 47, type := 0, pos := "law.go:227", after := #[], guard := none }) rfl (fun K hK => ?_) AllReadyH.nil
          go_simp
          have hlt_p20 := BB.out.size
          have hlt_p20_L7 := L7.out.lt
          have hle_p20_B8 := B8.out.le
          replace L7 := Lib.hid (L7.out.below (below_new v61 (.cells #[.int .i64 0, .int .u32 0, .int .u32 0] 47)))
          replace B8 := Lib.hid (B8.out.below (below_new v61 (.cells #[.int .i64 0, .int .u32 0, .int .u32 0] 47)))
          replace BB := Lib.hid (BB.out.trans ((below_new v61 (.cells #[.int .i64 0, .int .u32 0, .int .u32 0] 47)).mono BB.out.size))
          have X20 := Lib.hid (Box.new v61 #[.int .i64 0, .int .u32 0, .int .u32 0] 47 rfl)
          generalize World.alloc v61 (.cells #[.int .i64 0, .int .u32 0, .int .u32 0] 47) = v62 at *
          generalize World.heap v61 = hp_p20 at *
          generalize hp_p20.size = p20 at *
          refine hK.out _ _ ?_ (fun hHeld => ?_)
          · exact ⟨(L7.out.cell 0), (L7.out.cell 1), (L7.out.cell 2)⟩
          clear hK K
          (try simp only [Act.put])
          (try simp only [List.setIfInBounds_toArray])
          (try simp only [List.set_cons_succ])
          (try simp only [List.set_cons_zero])
          refine wpAnyH_ready (rs := [8]) (by kernel_rfl) (by simp) ?_
          refine AllReadyH.cons (o := { dst := none, op := Op.store 47 (Operand.tmp 20) (Operand.tmp 155), type := 0, pos := "law.go:227", after := #[{ on := 7, ground := Ground.data }, { on := 5, ground := Ground.data }, { on := 3, ground := Ground.chain }, { on := 0, ground := Ground.phase }, { on := 1, ground := Ground.phase }, { on := 2, ground := Ground.phase }, { on := 3, ground := Ground.phase }, { on := 4, ground := Ground.phase }, { on := 5, ground := Ground.phase }, { on := 6, ground := Ground.textOnly Departure.lateStores }, { on := 7, ground := Ground.phase }], guard := none }) rfl (fun K hK => ?_) AllReadyH.nil
          obtain ⟨⟨m0, m1, m2⟩, g0, g1, g2⟩ := X20.out.cells3
          go_simp
          clear m0 g0 m1 g1 m2 g2
          replace L7 := Lib.hid (L7.out.only (by omega) ((((Only.refl p20 v62).set 0 (.int .i64 0)).set 1 (.int .u32 0)).set 2 (.int .u32 0)))
          replace B8 := Lib.hid ((Lat.put (Lat.put (Lat.put B8.out p20 (by omega) 0 (.int .i64 0)) p20 (by omega) 1 (.int .u32 0)) p20 (by omega) 2 (.int .u32 0)))
          replace BB := Lib.hid ((((BB.out).put p20 (by omega) 0 (.int .i64 0)).put p20 (by omega) 1 (.int .u32 0)).put p20 (by omega) 2 (.int .u32 0))
          replace X20 := Lib.hid ((((X20.out).set 0 (.int .i64 0)).set 1 (.int .u32 0)).set 2 (.int .u32 0))
          generalize (World.setCell (World.setCell (World.setCell v62 ⟨p20, 0, none⟩ (.int .i64 0)) ⟨p20, 1, none⟩ (.int .u32 0)) ⟨p20, 2, none⟩ (.int .u32 0)) = v63 at *
          refine hK.out _ _ ?_ (fun hHeld => ?_)
          · exact ⟨(L7.out.cell 0), (L7.out.cell 1), (L7.out.cell 2)⟩
          clear hK K
          (try simp only [Act.put])
          (try simp only [List.setIfInBounds_toArray])
          (try simp only [List.set_cons_succ])
          (try simp only [List.set_cons_zero])
          refine wpAnyH_ready (rs := [9]) (by kernel_rfl) (by simp) ?_
          refine AllReadyH.cons (o := { dst := some 21, op := Op.assign (Operand.tmp 156), type := 36, pos := "law.go:227", after := #[{ on := 6, ground := Ground.data }, { on := 8, ground := Ground.chain }, { on := 0, ground := Ground.phase }, { on := 1, ground := Ground.phase }, { on := 2, ground := Ground.phase }, { on := 3, ground := Ground.phase }, { on := 4, ground := Ground.phase }, { on := 5, ground := Ground.phase }, { on := 6, ground := Ground.phase }, { on := 7, ground := Ground.phase }, { on := 8, ground := Ground.phase }], guard := none }) rfl (fun K hK => ?_) AllReadyH.nil
          go_simp
          refine hK.out _ _ ?_ (fun hHeld => ?_)
          · exact ⟨(L7.out.cell 0), (L7.out.cell 1), (L7.out.cell 2)⟩
          clear hK K
          (try simp only [Act.put])
          (try simp only [List.setIfInBounds_toArray])
          (try simp only [List.set_cons_succ])
          (try simp only [List.set_cons_zero])
          refine wpAnyH_done (by kernel_rfl) ?_ _
          clear hHeld
          go_wp2_with fail
          go_meet
          case rel => exact ⟨rfl, BB.out⟩
        refine AllReadyH.cons (o := { dst := some 20, op := Op.alloc 47, type := 0, pos := "law.go:227", after := #[], guard := none }) rfl (fun K hK => ?_) AllReadyH.nil
        go_simp
        have hlt_p20 := BB.out.size
        have hlt_p20_L7 := L7.out.lt
        have hle_p20_B8 := B8.out.le
        replace L7 := Lib.hid (L7.out.below (below_new V60 (.cells #[.int .i64 0, .int .u32 0, .int .u32 0] 47)))
        replace B8 := Lib.hid (B8.out.below (below_new V60 (.cells #[.int .i64 0, .int .u32 0, .int .u32 0] 47)))
        replace BB := Lib.hid (BB.out.trans ((below_new V60 (.cells #[.int .i64 0, .int .u32 0, .int .u32 0] 47)).mono BB.out.size))
        have X20 := Lib.hid (Box.new V60 #[.int .i64 0, .int .u32 0, .int .u32 0] 47 rfl)
        generalize World.alloc V60 (.cells #[.int .i64 0, .int .u32 0, .int .u32 0] 47) = v64 at *
        generalize World.heap V60 = hp_p20 at *
        generalize hp_p20.size = p20 at *
        refine hK.out _ _ ?_ (fun hHeld => ?_)
        · exact ⟨(L7.out.cell 0), (L7.out.cell 1), (L7.out.cell 2)⟩
        clear hK K
        (try simp only [Act.put])
        (try simp only [List.setIfInBounds_toArray])
        (try simp only [List.set_cons_succ])
        (try simp only [List.set_cons_zero])
        refine wpAnyH_ready (rs := [3]) (by kernel_rfl) (by simp) ?_
        refine AllReadyH.cons (o := { dst := some 154, op := Op.call { callee := Callee.value (Operand.func 31), args := #[Operand.tmp 151, Operand.tmp 153, Operand.const (Value.int IntKind.i64 0)], argTypes := #[29, 35, 44] }, type := 74, pos := "law.go:227", after := #[{ on := 0, ground := Ground.data }, { on := 2, ground := Ground.data }], guard := none }) rfl (fun K hK => ?_) AllReadyH.nil
        go_simp
        go_at_call 31
        refine (LS.out _ (HG8.out.below (Lat.out8 B8.out)) (Lat.out8 B8.out)).mono ?_
        rintro e v65 ⟨rfl, hb⟩
        replace L7 := Lib.hid (L7.out.below (hb))
        replace B8 := Lib.hid (B8.out.below (hb))
        replace X20 := Lib.hid (X20.out.below (hb))
        replace BB := Lib.hid (BB.out.trans ((hb).mono BB.out.size))
        clear hb
        go_simp
        refine hK.out _ _ ?_ (fun hHeld => ?_)
        · exact ⟨(L7.out.cell 0), (L7.out.cell 1), (L7.out.cell 2)⟩
        clear hK K
        (try simp only [Act.put])
        (try simp only [List.setIfInBounds_toArray])
        (try simp only [List.set_cons_succ])
        (try simp only [List.set_cons_zero])
        refine wpAnyH_take (i := 4) (oi := { dst := some 150, op := Op.move (Operand.tmp 154), type := 74, pos := "law.go:227", after := #[{ on := 3, ground := Ground.data }], guard := none }) (v := ?d66_7xv4) rfl (by kernel_rfl) (by kernel_rfl) (by kernel_rfl) (fun _ _ _ h => h) (Or.inl ⟨by rfl, ?d66_7xy4⟩) (by assumption) ?d66_7xr4
        case d66_7xy4 => (intro w hSw; (try dsimp only at hSw); go_simp; try with_reducible rfl)
        (try simp only [Act.put])
        (try simp only [List.setIfInBounds_toArray])
        (try simp only [List.set_cons_succ])
        (try simp only [List.set_cons_zero])
        refine wpAnyH_take (i := 5) (oi := { dst := some 155, op := Op.extract (Operand.tmp 150) 0, type := 47, pos := "law.go:227", after := #[{ on := 4, ground := Ground.data }], guard := none }) (v := ?d66_8xv5) rfl (by kernel_rfl) (by kernel_rfl) (by kernel_rfl) (fun _ _ _ h => h) (Or.inl ⟨by rfl, ?d66_8xy5⟩) (by assumption) ?d66_8xr5
        case d66_8xy5 => (intro w hSw; (try dsimp only at hSw); go_simp; try with_reducible rfl)
        (try simp only [Act.put])
        (try simp only [List.setIfInBounds_toArray])
        (try simp only [List.set_cons_succ])
        (try simp only [List.set_cons_zero])
        refine wpAnyH_take (i := 6) (oi := { dst := some 156, op := Op.extract (Operand.tmp 150) 1, type := 36, pos := "law.go:227", after := #[{ on := 4, ground := Ground.data }, { on := 8, ground := Ground.gcOnly Departure.lateStores }], guard := none }) (v := ?d66_9xv6) rfl (by kernel_rfl) (by kernel_rfl) (by kernel_rfl) (fun _ _ _ h => h) (Or.inl ⟨by rfl, ?d66_9xy6⟩) (by assumption) ?d66_9xr6
        case d66_9xy6 => (intro w hSw; (try dsimp only at hSw); go_simp; try with_reducible rfl)
        (try simp only [Act.put])
        (try simp only [List.setIfInBounds_toArray])
        (try simp only [List.set_cons_succ])
        (try simp only [List.set_cons_zero])
        refine wpAnyH_ready (rs := [8]) (by kernel_rfl) (by simp) ?_
        refine AllReadyH.cons (o := { dst := none, op := Op.store 47 (Operand.tmp 20) (Operand.tmp 155), type := 0, pos := "law.go:227", after := #[{ on := 7, ground := Ground.data }, { on := 5, ground := Ground.data }, { on := 3, ground := Ground.chain }, { on := 0, ground := Ground.phase }, { on := 1, ground := Ground.phase }, { on := 2, ground := Ground.phase }, { on := 3, ground := Ground.phase }, { on := 4, ground := Ground.phase }, { on := 5, ground := Ground.phase }, { on := 6, ground := Ground.textOnly Departure.lateStores }, { on := 7, ground := Ground.phase }], guard := none }) rfl (fun K hK => ?_) AllReadyH.nil
        obtain ⟨⟨m0, m1, m2⟩, g0, g1, g2⟩ := X20.out.cells3
        go_simp
        clear m0 g0 m1 g1 m2 g2
        replace L7 := Lib.hid (L7.out.only (by omega) ((((Only.refl p20 v65).set 0 (.int .i64 0)).set 1 (.int .u32 0)).set 2 (.int .u32 0)))
        replace B8 := Lib.hid ((Lat.put (Lat.put (Lat.put B8.out p20 (by omega) 0 (.int .i64 0)) p20 (by omega) 1 (.int .u32 0)) p20 (by omega) 2 (.int .u32 0)))
        replace BB := Lib.hid ((((BB.out).put p20 (by omega) 0 (.int .i64 0)).put p20 (by omega) 1 (.int .u32 0)).put p20 (by omega) 2 (.int .u32 0))
        replace X20 := Lib.hid ((((X20.out).set 0 (.int .i64 0)).set 1 (.int .u32 0)).set 2 (.int .u32 0))
        generalize (World.setCell (World.setCell (World.setCell v65 ⟨p20, 0, none⟩ (.int .i64 0)) ⟨p20, 1, none⟩ (.int .u32 0)) ⟨p20, 2, none⟩ (.int .u32 0)) = v66 at *
        refine hK.out _ _ ?_ (fun hHeld => ?_)
        · exact ⟨(L7.out.cell 0), (L7.out.cell 1), (L7.out.cell 2)⟩
        clear hK K
        (try simp only [Act.put])
        (try simp only [List.setIfInBounds_toArray])
        (try simp only [List.set_cons_succ])
        (try simp only [List.set_cons_zero])
        refine wpAnyH_ready (rs := [9]) (by kernel_rfl) (by simp) ?_
        refine AllReadyH.cons (o := { dst := some 21, op := Op.assign (Operand.tmp 156), type := 36, pos := "law.go:227", after := #[{ on := 6, ground := Ground.data }, { on := 8, ground := Ground.chain }, { on := 0, ground := Ground.phase }, { on := 1, ground := Ground.phase }, { on := 2, ground := Ground.phase }, { on := 3, ground := Ground.phase }, { on := 4, ground := Ground.phase }, { on := 5, ground := Ground.phase }, { on := 6, ground := Ground.phase }, { on := 7, ground := Ground.phase }, { on := 8, ground := Ground.phase }], guard := none }) rfl (fun K hK => ?_) AllReadyH.nil
        go_simp
        refine hK.out _ _ ?_ (fun hHeld => ?_)
        · exact ⟨(L7.out.cell 0), (L7.out.cell 1), (L7.out.cell 2)⟩
        clear hK K
        (try simp only [Act.put])
        (try simp only [List.setIfInBounds_toArray])
        (try simp only [List.set_cons_succ])
        (try simp only [List.set_cons_zero])
        refine wpAnyH_done (by kernel_rfl) ?_ _
        clear hHeld
        go_wp2_with fail
        go_meet
        case rel => exact ⟨rfl, BB.out⟩
      case rest =>
      obtain ⟨rfl, t5⟩ := hcut
      clear HG BB L7 P8 BW B8
      have BB := Lib.hid t5
      have HG := Lib.hid (HGW.out.below t5)
      clear t5
      go_wp2_with fail
      refine (awake_any _ HG.out).mono ?_
      rintro e w9 ⟨rfl, hb⟩
      replace BB := Lib.hid (BB.out.trans (hb.mono BB.out.size))
      clear hb
      go_wp2_with fail
      go_ret
      exact ⟨rfl, BB.out⟩
end Go.Proofs.YtfegeahieajmkaaDoor
