/- The walk through DescDecides. -/
import Derived.Test.YtfegeahieajmkaaDoorDsDecM
import Derived.Deep.DeepCutAuto
import Derived.Shelf.RegionOpenPlain
namespace Go.Proofs.YtfegeahieajmkaaDoor
open Go.ChangeShapes Go.WideShapes Go.ChangeAt Go.RowKit Go.Maps
open Lay (startL checkI placeI mayI sizeI Ok starts checkI_ok)
theorem nblk_set (w : World) (p : Addr) (v : Value) : (w.setCell p v).heap.size = w.heap.size := by simp [World.setCell]
theorem below_both {a b : World} (h : Below a.heap.size a b) (c j : Nat) (u : Value) : Below (a.setCell ⟨c, j, none⟩ u).heap.size (a.setCell ⟨c, j, none⟩ u) (b.setCell ⟨c, j, none⟩ u) := by
  refine ⟨h.os, h.tape, h.output, by simpa [World.setCell] using h.size, fun k hk => ?_⟩
  have hk' : k < a.heap.size := by simpa [World.setCell] using hk
  simp only [World.setCell, Array.getElem?_modify, h.block k hk']
theorem bl_set {w : World} {v : Value} {L : List Bool} (h : SK blE w v L) {c : Nat} {cs : Array Value} {t : TypeId} (hx : Box w c cs t) (hb : ∀ (j : Nat) (z : Bool), cs[j]? ≠ some (.bool z)) (j : Nat) (u : Value) : SK blE (w.setCell ⟨c, j, none⟩ u) v L := by
  obtain ⟨a, cap, hv, hcap, h | ⟨b, off, ha, hl, hc⟩⟩ := h
  · exact ⟨a, cap, hv, hcap, .inl h⟩
  rcases Nat.eq_zero_or_pos L.length with h0 | h0
  · exact ⟨a, cap, hv, hcap, .inl (List.length_eq_zero_iff.1 h0)⟩
  have hne : b ≠ c := by
    rintro rfl
    have := hc 0 h0 0 (.bool L[0]!) rfl
    rw [hx.cell] at this
    exact hb _ _ this
  refine ⟨a, cap, hv, hcap, .inr ⟨b, off, ha, by simpa using hl, fun i hi k x hk => ?_⟩⟩
  have := hc i hi k x hk
  unfold World.cell? at *
  rw [Below.heap_setCell _ _ _ _ (by simpa using hne)]
  exact this
theorem row_form {t : TypeId} {B : Nat} {w : World} {v : Value} {L : List Wd} (h : RowK wdE t B w v L) (hn : 0 < L.length) : ∃ g c, v = .slice (some ⟨g, 0, none⟩) L.length c := by
  obtain ⟨a, c, rfl, _⟩ := h.form
  obtain ⟨g, rfl, _⟩ := h.block hn
  exact ⟨g, c, rfl⟩
theorem Lat.trans6 {a b c : World} (h : Lat a b) (k : Lat b c) : Lat a c := Lat.below h k
set_option maxRecDepth 100000 in
set_option maxHeartbeats 12800000 in
theorem decides_walk (qa qb qc : Nat) (a b c : Int) (v : Value) (L : List En) (vp : Value) (P : List (Int × Wd)) (w : World) (hg : Lay.Gl w) (h1 : qa < 256) (h2 : qb < 256) (h3 : qc < 256) (ha : -9223372036854775808 ≤ a ∧ a < 9223372036854775808) (_ : -9223372036854775808 ≤ b ∧ b < 9223372036854775808) (hc : -9223372036854775808 ≤ c ∧ c < 9223372036854775808) (hv : ES w v L) (hL : ∀ e ∈ L, OkE e) (_ : L.length ≤ maxLen) (hp : PS w vp P) (hP : ∀ e ∈ P, OkP e) (hPl : P.length ≤ maxLen) : Calls Tryd.prog 7 #[.agg #[.int .u8 qa, .int .u8 qb, .int .u8 qc], .agg #[.int .i64 a, .int .i64 b, .int .i64 c, v], vp] w (Good w) := by
  have HG := Lib.hid hg
  have HGW := Lib.hid hg
  have HV := Lib.hid hv
  have HL := Lib.hid hL
  have HC := Lib.hid hc
  have HP := Lib.hid hp
  have HPO := Lib.hid hP
  have GR := Lib.hid (fun W h => great_any v L W (hv.below h))
  have OK := Lib.hid (plan_ok (a := qa) (b := qb) (c := qc))
  have PA := Lib.hid (fun W h => plan_any qa qb qc W h h1 h2 h3)
  obtain ⟨T, hT⟩ : ∃ x, 1 + qa % 4 = x := ⟨_, rfl⟩
  obtain ⟨C, hC⟩ : ∃ x, 8 + qb % 40 = x := ⟨_, rfl⟩
  obtain ⟨B, hB⟩ : ∃ x, qc % 12 = x := ⟨_, rfl⟩
  rw [hT, hC, hB] at OK PA
  clear hT hC hB
  obtain ⟨a1, cp, rfl, hcap⟩ := hv.form
  obtain ⟨pa1, pcp, rfl, hpcap⟩ := hp.form
  obtain ⟨n, hn⟩ : ∃ n, L.length = n := ⟨_, rfl⟩
  obtain ⟨kp, hkp⟩ : ∃ n, P.length = n := ⟨_, rfl⟩
  rw [hn] at HV hcap GR ⊢
  rw [hkp] at HP hpcap hPl ⊢
  have HN := Lib.hid hn
  have HK := Lib.hid hkp
  have HPL := Lib.hid hPl
  clear hv hg hn hL hc hp hP hkp hPl
  go_enter Tryd.func7, Tryd.ntmps7
  go_upto_region 1 with fail
  have B1 := Lib.hid (below1 w (.cells #[.int .u8 qa, .int .u8 qb, .int .u8 qc] 22))
  have B2 := Lib.hid (below1 (w.alloc (.cells #[.int .u8 qa, .int .u8 qb, .int .u8 qc] 22)) (.cells #[.int .i64 a, .int .i64 b, .int .i64 c, .slice a1 n cp] 25))
  have BB := Lib.hid (B1.out.trans (B2.out.mono B1.out.size))
  have QQ := Lib.hid ((Box.new w #[.int .u8 qa, .int .u8 qb, .int .u8 qc] 22 rfl).below B2.out)
  have D1 := Lib.hid (Box.new (w.alloc (.cells #[.int .u8 qa, .int .u8 qb, .int .u8 qc] 22)) #[.int .i64 a, .int .i64 b, .int .i64 c, .slice a1 n cp] 25 (n := w.heap.size + 1) (by simp))
  replace HG := Lib.hid (HG.out.below BB.out)
  obtain ⟨W, hW⟩ : ∃ W, ((w.alloc (.cells #[.int .u8 qa, .int .u8 qb, .int .u8 qc] 22)).alloc (.cells #[.int .i64 a, .int .i64 b, .int .i64 c, .slice a1 n cp] 25)) = W := ⟨_, rfl⟩
  obtain ⟨q, hq⟩ : ∃ q, w.heap.size = q := ⟨_, rfl⟩
  rw [hW] at BB QQ D1 HG
  rw [hq] at QQ D1
  rw [hW, hq]
  have HQ := Lib.hid (show w.heap.size ≤ q + 1 by omega)
  clear hW hq B1 B2
  have y0 := D1.out.cell 0
  have y1 := D1.out.cell 1
  have y2 := D1.out.cell 2
  have y3 := D1.out.cell 3
  simp at y0 y1 y2 y3
  go_wp2_with fail
  refine (GR.out _ BB.out).mono ?_
  rintro e w1 ⟨rfl, hw⟩
  obtain rfl := hw
  clear GR
  by_cases h40 : 40 < n
  · rw [decide_eq_true h40]
    go_wp2_with fail
    refine (awake_any _ HG.out).mono ?_
    rintro e w9 ⟨rfl, hb⟩
    replace BB := Lib.hid (BB.out.trans (hb.mono BB.out.size))
    clear hb
    go_wp2_with fail
    go_ret
    exact ⟨rfl, BB.out⟩
  rw [decide_eq_false h40]
  by_cases h41 : 40 < kp
  · have h42 : (40 : Int) < (kp : Int) := by omega
    go_wp2_with fail
    refine (awake_any _ HG.out).mono ?_
    rintro e w9 ⟨rfl, hb⟩
    replace BB := Lib.hid (BB.out.trans (hb.mono BB.out.size))
    clear hb
    go_wp2_with fail
    go_ret
    exact ⟨rfl, BB.out⟩
  have h42 : ¬ (40 : Int) < (kp : Int) := by omega
  have hl : L.length ≤ 1000 := by rw [HN.out]; omega
  have h4 : n ≤ 40 := by omega
  have h4' : kp ≤ 40 := by omega
  have x0 := QQ.out.cell 0
  have x1 := QQ.out.cell 1
  have x2 := QQ.out.cell 2
  simp at x0 x1 x2
  go_wp2_with fail
  clear h40 h41 h42 y0 y1 y2 y3
  refine (PA.out _ HG.out).mono ?_
  rintro e w2 ⟨⟨u, rfl, hu⟩, hb⟩
  replace D1 := Lib.hid (D1.out.below hb)
  replace HG := Lib.hid (HG.out.below hb)
  replace BB := Lib.hid (BB.out.trans (hb.mono BB.out.size))
  clear hb x0 x1 x2 QQ PA
  have N7 := OK.out.2
  have HU := Lib.hid hu
  obtain ⟨ua, uc, rfl, _⟩ := hu.form
  clear hu
  have ML := Lib.hid (mayBs_len T C B (startL T C B 7))
  rw [ML.out]
  rw [ML.out] at HU
  clear ML
  obtain ⟨pn, hpn⟩ : ∃ n, startL T C B 7 = n := ⟨_, rfl⟩
  obtain ⟨s4, hs4⟩ : ∃ n, startL T C B 4 = n := ⟨_, rfl⟩
  obtain ⟨rm, hrm⟩ : ∃ n, roomsI T C B = n := ⟨_, rfl⟩
  have HPN := Lib.hid hpn
  have HS4 := Lib.hid hs4
  have HRM := Lib.hid hrm
  have FL := Lib.hid (firstL_len T C B)
  have FI := Lib.hid (fun W h => Lay.first_ok T C B W h OK.out)
  have FO := Lib.hid (firstL_ok T C B)
  unfold PlV
  rw [hpn] at FI FL N7 HU ⊢
  rw [hs4, hrm]
  clear hpn hs4 hrm
  go_upto_region 4 with fail
  have L7 := Lib.hid (Box.new w2 #[.int .i64 T, .int .i64 C, .int .i64 B] 29 rfl)
  have P8 := Lib.hid (Box.new (w2.alloc (.cells #[.int .i64 T, .int .i64 C, .int .i64 B] 29)) #[.int .i64 T, .int .i64 B, .int .i64 s4, .int .i64 rm, .int .i64 104, .int .i64 32, .slice ua pn uc, .int .i64 pn] 32 (n := w2.heap.size + 1) (by simp))
  have B1 := Lib.hid (below1 w2 (.cells #[.int .i64 T, .int .i64 C, .int .i64 B] 29))
  have B2 := Lib.hid (below1 (w2.alloc (.cells #[.int .i64 T, .int .i64 C, .int .i64 B] 29)) (.cells #[.int .i64 T, .int .i64 B, .int .i64 s4, .int .i64 rm, .int .i64 104, .int .i64 32, .slice ua pn uc, .int .i64 pn] 32))
  replace L7 := Lib.hid (L7.out.below B2.out)
  replace D1 := Lib.hid (D1.out.below B1.out)
  replace HG := Lib.hid (HG.out.below B1.out)
  replace HU := Lib.hid (HU.out.below B1.out)
  replace BB := Lib.hid (BB.out.trans (B1.out.mono BB.out.size))
  replace D1 := Lib.hid (D1.out.below B2.out)
  replace HG := Lib.hid (HG.out.below B2.out)
  replace HU := Lib.hid (HU.out.below B2.out)
  replace BB := Lib.hid (BB.out.trans (B2.out.mono BB.out.size))
  clear B1 B2
  generalize (w2.alloc (.cells #[.int .i64 T, .int .i64 C, .int .i64 B] 29)).alloc (.cells #[.int .i64 T, .int .i64 B, .int .i64 s4, .int .i64 rm, .int .i64 104, .int .i64 32, .slice ua pn uc, .int .i64 pn] 32) = W3 at *
  generalize w2.heap.size = p7 at *
  have x0 := L7.out.cell 0
  have x1 := L7.out.cell 1
  have x2 := L7.out.cell 2
  simp at x0 x1 x2
  go_wp2_with fail
  have G0 := HG
  have B0 := BB
  have D10 := D1
  have L70 := L7
  have P80 := P8
  have U0 := HU
  have ME := Lib.hid (fun W h (h' : Below w.heap.size w W) => memory_any T C B _ P W h OK.out (HP.out.below h') HPO.out (by rw [HK.out]; omega))
  rw [HPN.out, HK.out] at ME
  refine (ME.out _ HG.out BB.out).mono ?_
  rintro e w4 ⟨g, rfl, hr, hb⟩
  have R := Lib.hid hr
  clear x0 x1 x2 D1 L7 P8 HG BB HU
  have BW := Lib.hid hb
  have D1 := Lib.hid (D10.out.below hb)
  have L7 := Lib.hid (L70.out.below hb)
  have P8 := Lib.hid (P80.out.below hb)
  have HG := Lib.hid (G0.out.below hb)
  have BB := Lib.hid (B0.out.trans (hb.mono B0.out.size))
  clear hb hr FI ME
  have FO2 := Lib.hid (putsM_ok (putAt pn) FO.out HPO.out (k := kp) (by rw [HK.out]; exact Nat.le_refl _))
  have FL2 := Lib.hid ((putsM_len (putAt pn) (firstL T C B) P kp).trans FL.out)
  obtain ⟨M, hM⟩ : ∃ M, putsM (putAt pn) (firstL T C B) P kp = M := ⟨_, rfl⟩
  rw [hM] at R FL2 FO2
  clear hM FL FO HP HPO HK
  have FL := FL2
  have FO := FO2
  clear FL2 FO2
  have hpn2 : 2 ≤ pn := by have := starts T C B; have := HPN.out; omega
  have y0 := D1.out.cell 0
  have y1 := D1.out.cell 1
  have y2 := D1.out.cell 2
  have y3 := D1.out.cell 3
  simp at y0 y1 y2 y3
  have f0 := D1.out.free 0
  have f1 := D1.out.free 1
  have f2 := D1.out.free 2
  have f3 := D1.out.free 3
  have l0 := D1.out.lt
  go_upto_region 8 with fail
  clear y0 y1 y2 y3 f0 f1 f2 f3 l0 D1 L7 P8 HG BB
  have NL := Lib.hid (L70.out.ne D10.out (by decide))
  have NP := Lib.hid (P80.out.ne D10.out (by decide))
  have GB := Lib.hid (show W3.heap.size ≤ g from by
    obtain ⟨g', e, h1, _⟩ := R.out.block (by omega)
    injection e with e
    injection e with e
    subst e; exact h1)
  have NR := Lib.hid (show some (q + 1) ≠ (Value.slice (some ⟨g, 0, none⟩) pn pn).ownBlock from by
    intro h
    have h1 : q + 1 = g := by simpa [Value.ownBlock] using h
    have h2 := D10.out.lt
    have h3 := GB.out
    omega)
  replace R := Lib.hid (R.out.otherSet NR.out 2 (.int .i64 0))
  replace BW := Lib.hid (below_both BW.out (q + 1) 2 (.int .i64 0))
  replace L70 := Lib.hid (L70.out.other NL.out 2 (.int .i64 0))
  replace P80 := Lib.hid (P80.out.other NP.out 2 (.int .i64 0))
  replace U0 := Lib.hid (bl_set U0.out D10.out (by intro j z; match j with | 0 => simp | 1 => simp | 2 => simp | 3 => simp | (k + 4) => simp) 2 (.int .i64 0))
  replace G0 := Lib.hid (gl_only G0.out (by omega) ((Only.refl (q + 1) W3).set 2 (.int .i64 0)))
  replace B0 := Lib.hid (B0.out.put (q + 1) HQ.out 2 (.int .i64 0))
  replace D10 := Lib.hid (show Box (W3.setCell ⟨q + 1, 2, none⟩ (.int .i64 0)) (q + 1) #[.int .i64 a, .int .i64 b, .int .i64 0, .slice a1 n cp] 25 from D10.out.set 2 (.int .i64 0))
  rw [← nblk_set W3 ⟨q + 1, 2, none⟩ (.int .i64 0)] at R
  clear NL NP GB NR
  generalize W3.setCell ⟨q + 1, 2, none⟩ (.int .i64 0) = W4 at *
  generalize w4.setCell ⟨q + 1, 2, none⟩ (.int .i64 0) = w5 at *
  have HX := Lib.hid BW.out
  have D1 := Lib.hid (D10.out.below HX.out)
  have L7 := Lib.hid (L70.out.below HX.out)
  have P8 := Lib.hid (P80.out.below HX.out)
  have HG := Lib.hid (G0.out.below HX.out)
  have BB := Lib.hid (B0.out.trans (HX.out.mono B0.out.size))
  clear HX
  have LA := Lib.hid (fun g M W h1 h2 h3 => laid_any T C B a b 0 _ L g M W4 W G0.out OK.out (HV.out.below B0.out) hl ha h1 (by rw [HPN.out]; exact h2) h3)
  have y0 := D1.out.cell 0
  have y1 := D1.out.cell 1
  have y2 := D1.out.cell 2
  have y3 := D1.out.cell 3
  simp at y0 y1 y2 y3
  have x0 := L7.out.cell 0
  have x1 := L7.out.cell 1
  have x2 := L7.out.cell 2
  simp at x0 x1 x2
  go_wp2_with fail
  have LX := LA.out g M w5 (by rw [FL.out]; exact R.out) FL.out BW.out
  rw [FL.out] at LX
  refine LX.mono ?_
  rintro e w6 ⟨rfl, hr, hb⟩
  clear LX LA x0 x1 x2 y0 y1 y2 y3
  clear D1 L7 P8 HG BB BW R
  have BW := Lib.hid hb
  have D1 := Lib.hid (D10.out.below hb)
  have L7 := Lib.hid (L70.out.below hb)
  have P8 := Lib.hid (P80.out.below hb)
  have HG := Lib.hid (G0.out.below hb)
  have BB := Lib.hid (B0.out.trans (hb.mono B0.out.size))
  have R := Lib.hid hr
  clear hb hr
  by_cases hd : chkD T C B (a, b, 0, L) = 0
  case neg =>
    rw [decide_eq_false hd]
    go_wp2_with fail
    refine (awake_any _ HG.out).mono ?_
    rintro e w9 ⟨rfl, hb⟩
    replace BB := Lib.hid (BB.out.trans (hb.mono BB.out.size))
    clear hb
    go_wp2_with fail
    go_ret
    exact ⟨rfl, BB.out⟩
  rw [decide_eq_true hd]
  have HD := Lib.hid hd
  clear hd
  have FM := Lib.hid (show (laidM T C B M (a, b, 0, L)).length = pn by rw [laidM_len, FL.out])
  have FQ := Lib.hid (laidM_ok (T := T) (C := C) (B := B) (a := a) (b := b) (c := 0) (L := L) FO.out (by omega) HL.out hl)
  have DCD := Lib.hid (fun (s : Int) (p m : Nat) (hs : 1 ≤ s ∧ s ≤ 3) hp k y0 y1 ρ hm hk => decides OK.out (M0 := M) (M := laidM T C B M (a, b, 0, L)) (a := a) (b := b) (s := s) (L := L) (p := p) (m := m) (by rw [FL.out, HPN.out]) rfl HD.out hs hp (k := k) (y0 := y0) (y1 := y1) (ρ := ρ) hm hk)
  obtain ⟨M1, hM1⟩ : ∃ X, laidM T C B M (a, b, 0, L) = X := ⟨_, rfl⟩
  rw [hM1] at R FM FQ DCD
  clear hM1 FL FO
  have PL := Lib.hid (fun W h => Lay.place_any T C B a W h ha.2)
  unfold Lay.LV at PL
  obtain ⟨hz1, -, -, -, -, -, -, -, -⟩ := (chkD_zero OK.out a b 0 L).1 HD.out
  rcases place_room OK.out a with hp | ⟨p, m, hp, hm, hroom, hp4⟩
  · rw [hp] at hz1; exact absurd rfl hz1
  have hpn3 : p < pn := by rw [HPN.out] at hroom; omega
  have HPP := Lib.hid hp
  rw [hp] at PL
  replace DCD := Lib.hid (fun s hs => DCD.out s p m hs HPP.out)
  clear hz1 hm hroom hp4 hp HD
  have y0 := D1.out.cell 0
  have y1 := D1.out.cell 1
  have y2 := D1.out.cell 2
  have y3 := D1.out.cell 3
  simp at y0 y1 y2 y3
  have x0 := L7.out.cell 0
  have x1 := L7.out.cell 1
  have x2 := L7.out.cell 2
  simp at x0 x1 x2
  go_wp2_with fail
  refine (PL.out _ HG.out).mono ?_
  rintro e w7 ⟨rfl, hb⟩
  clear y0 y1 y2 y3 x0 x1 x2 PL
  replace R := Lib.hid (R.out.below hb)
  replace D1 := Lib.hid (D1.out.below hb)
  replace L7 := Lib.hid (L7.out.below hb)
  replace P8 := Lib.hid (P8.out.below hb)
  replace HG := Lib.hid (HG.out.below hb)
  replace BB := Lib.hid (BB.out.trans (hb.mono BB.out.size))
  replace BW := Lib.hid (BW.out.trans (hb.mono BW.out.size))
  clear hb
  have qp1 : (p : Int) < (pn : Int) := by omega
  have qp2 : ¬ (pn : Int) ≤ (p : Int) := by omega
  have qp3 : ¬ (p : Int) < 0 := by omega
  have qp4 : ¬ pn ≤ p := by omega
  have y0 := D1.out.cell 0
  have y1 := D1.out.cell 1
  have y2 := D1.out.cell 2
  have y3 := D1.out.cell 3
  simp at y0 y1 y2 y3
  have z0 := P8.out.cell 0
  have z1 := P8.out.cell 1
  have z2 := P8.out.cell 2
  have z3 := P8.out.cell 3
  have z4 := P8.out.cell 4
  have z5 := P8.out.cell 5
  have z6 := P8.out.cell 6
  have z7 := P8.out.cell 7
  simp at z0 z1 z2 z3 z4 z5 z6 z7
  go_wp2_with fail
  refine (ref_any a b _).mono ?_
  rintro e w8 ⟨rfl, hw⟩
  obtain rfl := hw
  clear y0 y1 y2 y3 z0 z1 z2 z3 z4 z5 z6 z7 qp1 qp2 qp3 qp4
  obtain ⟨r, hr⟩ : ∃ x, (refI a b).1 = x := ⟨_, rfl⟩
  obtain ⟨r2, hr2⟩ : ∃ x, (refI a b).2 = x := ⟨_, rfl⟩
  rw [hr] at DCD ⊢
  rw [hr2]
  clear hr hr2
  have RMY := Lib.hid (fun x W (h : Below W4.heap.size W4 W) => rmay_any T C B (.slice ua pn uc) x W OK.out (by rw [HPN.out]; exact U0.out.below h))
  unfold PlV at RMY
  rw [HPN.out, HS4.out, HRM.out] at RMY
  obtain ⟨W5, hW5⟩ : ∃ W5, W5 = w8 := ⟨_, rfl⟩
  subst hW5
  have R5 := R
  have L75 := L7
  have P85 := P8
  have D15 := D1
  have HG5 := HG
  have BB5 := BB
  have BW5 := BW
  clear R L7 P8 D1 HG BB BW D10 L70 P80 G0 B0 U0
  have LM := Lib.hid (fun x W h (h' : Below W5.heap.size W5 W) => logical_any T C B _ M1 x W h OK.out (R5.out.below h').sk (by rw [FM.out]; omega) FQ.out)
  unfold wdV at LM
  go_wp2_with fail
  go_loopw [15] (fun iv wr => ∃ s : Nat, 1 ≤ s ∧ s ≤ 4 ∧ iv = .int .i64 s ∧ Lat W5 wr) (fun iv _ => 4 - (intOf iv).toNat)
  case atStart => exact ⟨1, by omega, by omega, rfl, Below.refl _ _⟩
  case round =>
    obtain ⟨s, hs1, hs2, rfl, h1⟩ := hrel
    have B5 := Lib.hid h1
    have D1 := Lib.hid (D15.out.below (Lat.out8 h1))
    have L7 := Lib.hid (L75.out.below (Lat.out8 h1))
    have P8 := Lib.hid (P85.out.below (Lat.out8 h1))
    have HG := Lib.hid (HG5.out.below (Lat.out8 h1))
    have BB := Lib.hid (BB5.out.trans (((Lat.out8 h1)).mono BB5.out.size))
    have BW := Lib.hid (BW5.out.trans (((Lat.out8 h1)).mono BW5.out.size))
    have R := Lib.hid (R5.out.below (Lat.out8 h1))
    clear h1
    by_cases hlt : s ≤ 3
    case neg =>
      have qs : ¬ (s : Int) ≤ 3 := by omega
      go_wp2_with fail
      refine (awake_any _ HG.out).mono ?_
      rintro e w9 ⟨rfl, hb⟩
      replace BB := Lib.hid (BB.out.trans (hb.mono BB.out.size))
      clear hb
      go_wp2_with fail
      go_ret
      exact ⟨rfl, BB.out⟩
    have qs : (s : Int) ≤ 3 := by omega
    have BSZ := Lib.hid (show W5.heap.size ≤ wr.heap.size from Lat.le B5.out)
    have MA := Lib.hid (RowK.ofBox (E := wdE) (B := wr.heap.size) (L := []) (n := 0) (Box.new wr #[] 47 rfl) (Nat.le_refl _) rfl rfl (by simp))
    have BA := Lib.hid (below1 wr (.cells #[] 47))
    have RA := Lib.hid (R.out.below BA.out)
    go_upto_region 18 with (first
      | (at_builtin; refine wpList_appK (w0 := wr) Tryd.underlying35 infoWd rfl (by decide) _ rfl (.tmp 86) (.tmp 87) rfl rfl BA.out MA.out rfl RA.out.sk (by simp; rw [FM.out]; omega) ?_; intro v3 w3 rr3 b3 g3; have XR := Lib.hid rr3; have BX := Lib.hid b3; obtain ⟨gx, cx, ex⟩ := row_form rr3 (by simp; rw [FM.out]; omega); clear rr3 b3 g3; rw [List.nil_append] at XR ex; rw [FM.out] at ex; subst ex)
      | fail)
    replace B5 := Lib.hid (Lat.below B5.out BX.out)
    clear D1 L7 P8 HG BB BW R MA RA
    have D1 := Lib.hid (D15.out.below (Lat.out8 B5.out))
    have GX := Lib.hid (show W5.heap.size ≤ gx from by
      obtain ⟨g', e, h1, _⟩ := XR.out.block (by omega)
      injection e with e
      injection e with e
      subst e
      exact Nat.le_trans BSZ.out h1)
    clear BA BX
    have y0 := D1.out.cell 0
    have y1 := D1.out.cell 1
    have y2 := D1.out.cell 2
    have y3 := D1.out.cell 3
    simp at y0 y1 y2 y3
    go_wp2_with fail
    refine (status_any s b _).mono ?_
    rintro e w6 ⟨rfl, hb⟩
    clear y0 y1 y2 y3 D1
    replace B5 := Lib.hid (Lat.below B5.out hb)
    replace XR := Lib.hid (XR.out.below hb)
    clear hb
    unfold wdV
    have DC := Lib.hid (DCD.out s (by omega))
    obtain ⟨bq, hbq⟩ : ∃ x, IntKind.u32.wrap b = x := ⟨_, rfl⟩
    have BQ := Lib.hid (show 0 ≤ bq ∧ bq < 4294967296 by rw [← hbq]; exact ⟨Int.emod_nonneg _ (by decide), Int.emod_lt_of_pos _ (by decide)⟩)
    rw [hbq] at DC ⊢
    clear hbq
    have hpj : p < M1.length := by rw [FM.out]; exact hpn3
    obtain ⟨⟨d0, d1, d2⟩, f0, f1, f2⟩ := XR.out.at3 (i := p) hpj
    have qp1 : (p : Int) < (pn : Int) := by omega
    simp only
    go_upto_region 19 with fail
    clear d0 d1 d2 f0 f1 f2 qp1
    replace XR := Lib.hid (XR.out.put3 hpj s bq 0)
    replace B5 := Lib.hid (Lat.put (Lat.put (Lat.put B5.out gx GX.out (p * 3) (.int .i64 s)) gx GX.out (p * 3 + 1) (.int .u32 bq)) gx GX.out (p * 3 + 2) (.int .u32 0))
    have FN := Lib.hid (show (M1.set p ((s : Int), bq, (0 : Int))).length = pn by rw [List.length_set]; exact FM.out)
    have FR := Lib.hid (ok_set FQ.out p (show OkW ((s : Int), bq, (0 : Int)) from ⟨⟨by simp only; omega, by simp only; omega⟩, BQ.out, by simp⟩))
    obtain ⟨N, hN⟩ : ∃ X, M1.set p ((s : Int), bq, (0 : Int)) = X := ⟨_, rfl⟩
    rw [hN] at XR FN FR DC
    clear hN GX hpj BQ
    generalize ((w6.setCell ⟨gx, p * 3, none⟩ (.int .i64 s)).setCell ⟨gx, p * 3 + 1, none⟩ (.int .u32 bq)).setCell ⟨gx, p * 3 + 2, none⟩ (.int .u32 0) = W6 at *
    have XR6 := Lib.hid (show RowK wdE 47 0 W6 (.slice (some ⟨gx, 0, none⟩) pn cx) N from XR.out.mono (Nat.zero_le _))
    have B56 := B5
    clear XR B5
    have LN := Lib.hid (fun x W h (h' : Below W6.heap.size W6 W) => logical_any T C B _ N x W h OK.out (XR6.out.below h').sk (by rw [FN.out]; omega) FR.out)
    unfold wdV at LN
    go_wp2_with fail
    go_loopw [17] (fun iv wr => ∃ k : Nat, k ≤ pn ∧ iv = .int .i64 k ∧ Lat W6 wr) (fun iv _ => pn - (intOf iv).toNat)
    case atStart => exact ⟨0, by omega, rfl, Below.refl _ _⟩
    case round =>
      obtain ⟨k, hk, rfl, h1⟩ := hrel
      have B6 := Lib.hid h1
      clear h1
      have P8 := Lib.hid (P85.out.below (Lat.out8 (Lat.trans6 B56.out B6.out)))
      have BB := Lib.hid (BB5.out.trans (((Lat.out8 (Lat.trans6 B56.out B6.out))).mono BB5.out.size))
      have x0 := P8.out.cell 0
      have x1 := P8.out.cell 1
      have x2 := P8.out.cell 2
      have x3 := P8.out.cell 3
      have x4 := P8.out.cell 4
      have x5 := P8.out.cell 5
      have x6 := P8.out.cell 6
      have x7 := P8.out.cell 7
      simp at x0 x1 x2 x3 x4 x5 x6 x7
      by_cases hlt2 : k < pn
      case neg =>
        obtain rfl : k = pn := by omega
        go_wp2_with fail
        go_roundw
        case rel => exact ⟨s + 1, by omega, by omega, by go_num, Lat.trans6 B56.out B6.out⟩
        case measure => simp [intOf]; omega
      have L7 := Lib.hid (L75.out.below (Lat.out8 (Lat.trans6 B56.out B6.out)))
      have HG := Lib.hid (HG5.out.below (Lat.out8 (Lat.trans6 B56.out B6.out)))
      have BW := Lib.hid (BW5.out.trans (((Lat.out8 (Lat.trans6 B56.out B6.out))).mono BW5.out.size))
      have R := Lib.hid (R5.out.below (Lat.out8 (Lat.trans6 B56.out B6.out)))
      go_wp2_with fail
      refine (RMY.out k _ BW.out).mono ?_
      rintro e w7 ⟨rfl, hb⟩
      clear x0 x1 x2 x3 x4 x5 x6 x7 P8 BW
      replace L7 := Lib.hid (L7.out.below hb)
      replace HG := Lib.hid (HG.out.below hb)
      replace R := Lib.hid (R.out.below hb)
      replace BB := Lib.hid (BB.out.trans (hb.mono BB.out.size))
      replace B6 := Lib.hid (Lat.below B6.out hb)
      clear hb
      cases hm : mayI T C B (k : Int) with
      | false =>
        clear hm
        go_wp2_with fail
        go_roundw
        case rel => exact ⟨k + 1, by omega, by go_num, B6.out⟩
        case measure => simp [intOf]; omega
      | true =>
      have OM := Lib.hid (FQ.out _ (mem_at (L := M1) (k := k) (by rw [FM.out]; exact hlt2)))
      obtain ⟨mw, hmw⟩ : ∃ x, M1[k]! = x := ⟨_, rfl⟩
      have HMW := Lib.hid hmw
      rw [hmw] at OM
      clear hmw
      obtain ⟨m0, m1, m2⟩ := mw
      obtain ⟨-, ⟨om1, om2⟩, om3, om4⟩ := OM.out
      simp only at om1 om2 om3 om4
      obtain ⟨ρ, rfl⟩ : ∃ k : Nat, m2 = k := ⟨m2.toNat, by omega⟩
      have DK := Lib.hid (DC.out k m0 m1 ρ hm HMW.out)
      have OM1 := Lib.hid (And.intro om1 om2)
      clear OM hm om1 om2 om3 om4
      have x0 := L7.out.cell 0
      have x1 := L7.out.cell 1
      have x2 := L7.out.cell 2
      simp at x0 x1 x2
      go_wp2_with fail
      refine (LM.out k _ HG.out (Lat.out8 (Lat.trans6 B56.out B6.out))).mono ?_
      rintro e w8 ⟨rfl, hb⟩
      clear x0 x1 x2
      replace L7 := Lib.hid (L7.out.below hb)
      replace HG := Lib.hid (HG.out.below hb)
      replace R := Lib.hid (R.out.below hb)
      replace BB := Lib.hid (BB.out.trans (hb.mono BB.out.size))
      replace B6 := Lib.hid (Lat.below B6.out hb)
      clear hb
      obtain ⟨lw, hlw⟩ : ∃ x, logW T C B M1 k = x := ⟨_, rfl⟩
      obtain ⟨le, hle⟩ : ∃ x, logE T C B M1 k = x := ⟨_, rfl⟩
      obtain ⟨nw, hnw⟩ : ∃ x, logW T C B N k = x := ⟨_, rfl⟩
      obtain ⟨ne, hne⟩ : ∃ x, logE T C B N k = x := ⟨_, rfl⟩
      have LN2 := Lib.hid (LN.out k)
      rw [hlw, hnw] at DK
      rw [hlw, hle]
      rw [hnw, hne] at LN2
      clear hlw hle hnw hne
      obtain ⟨l0, l1, l2⟩ := lw
      obtain ⟨n0, n1, n2⟩ := nw
      simp only at LN2 ⊢
      go_upto_region 24 with fail
      have X18 := Lib.hid (Box.new w8 #[.int .i64 l0, .int .u32 l1, .int .u32 l2] 47 rfl)
      have B1 := Lib.hid (below1 w8 (.cells #[.int .i64 l0, .int .u32 l1, .int .u32 l2] 47))
      replace L7 := Lib.hid (L7.out.below B1.out)
      replace HG := Lib.hid (HG.out.below B1.out)
      replace R := Lib.hid (R.out.below B1.out)
      replace BB := Lib.hid (BB.out.trans (B1.out.mono BB.out.size))
      replace B6 := Lib.hid (Lat.below B6.out B1.out)
      clear B1
      generalize w8.alloc (.cells #[.int .i64 l0, .int .u32 l1, .int .u32 l2] 47) = W8 at *
      generalize w8.heap.size = p18 at *
      have x0 := L7.out.cell 0
      have x1 := L7.out.cell 1
      have x2 := L7.out.cell 2
      simp at x0 x1 x2
      go_wp2_with fail
      refine (LN2.out _ HG.out (Lat.out8 B6.out)).mono ?_
      rintro e w9 ⟨rfl, hb⟩
      clear x0 x1 x2 L7 HG LN2
      replace X18 := Lib.hid (X18.out.below hb)
      replace R := Lib.hid (R.out.below hb)
      replace BB := Lib.hid (BB.out.trans (hb.mono BB.out.size))
      replace B6 := Lib.hid (Lat.below B6.out hb)
      clear hb
      go_upto_region 25 with fail
      have X20 := Lib.hid (Box.new w9 #[.int .i64 n0, .int .u32 n1, .int .u32 n2] 47 rfl)
      have B1 := Lib.hid (below1 w9 (.cells #[.int .i64 n0, .int .u32 n1, .int .u32 n2] 47))
      replace X18 := Lib.hid (X18.out.below B1.out)
      replace R := Lib.hid (R.out.below B1.out)
      replace BB := Lib.hid (BB.out.trans (B1.out.mono BB.out.size))
      replace B6 := Lib.hid (Lat.below B6.out B1.out)
      clear B1
      generalize w9.alloc (.cells #[.int .i64 n0, .int .u32 n1, .int .u32 n2] 47) = W9 at *
      generalize w9.heap.size = p20 at *
      have x0 := X18.out.cell 0
      have x1 := X18.out.cell 1
      have x2 := X18.out.cell 2
      simp at x0 x1 x2
      go_upto_region 26 with fail
      clear x0 x1 x2 X18
      have X22 := Lib.hid (Box.new W9 #[.int .i64 l0, .int .u32 l1, .int .u32 l2] 47 rfl)
      have P22 := Lib.hid (show W6.heap.size ≤ W9.heap.size from Lat.le B6.out)
      have N22 := Lib.hid (show p20 ≠ W9.heap.size from by have := X20.out.lt; omega)
      have B1 := Lib.hid (below1 W9 (.cells #[.int .i64 l0, .int .u32 l1, .int .u32 l2] 47))
      replace X20 := Lib.hid (X20.out.below B1.out)
      replace R := Lib.hid (R.out.below B1.out)
      replace BB := Lib.hid (BB.out.trans (B1.out.mono BB.out.size))
      replace B6 := Lib.hid (Lat.below B6.out B1.out)
      clear B1
      generalize W9.alloc (.cells #[.int .i64 l0, .int .u32 l1, .int .u32 l2] 47) = W10 at *
      generalize W9.heap.size = p22 at *
      obtain ⟨on, hon⟩ : ∃ x, (decide ((ρ : Int) = r) && decide ((s : Int) = 1)) = x := ⟨_, rfl⟩
      have ON := Lib.hid hon
      rw [hon] at DK
      clear hon
      have F0 := Lib.hid (show wantK L k on (l0, l1, l2) m1 0 = (l0, l1, l2) from rfl)
      have F1 := Lib.hid (fun j => show wantK L k on (l0, l1, l2) m1 (j + 1) = if hitE k L[j]! = true ∧ on = true then ((L[j]!).2.2.1, IntKind.u32.wrap (m1 + 1), 0) else wantK L k on (l0, l1, l2) m1 j from rfl)
      obtain ⟨F, hF⟩ : ∃ F : Nat → Wd, (fun j => wantK L k on (l0, l1, l2) m1 j) = F := ⟨_, rfl⟩
      have hF' : ∀ j, wantK L k on (l0, l1, l2) m1 j = F j := fun j => by rw [← hF]
      simp only [hF'] at F0 F1 DK
      rw [HN.out] at DK
      clear hF hF' BB
      go_wp2_with fail
      go_loopw [23] (fun iv wr => ∃ j : Nat, j ≤ n ∧ iv = .int .i64 j ∧ Box wr p22 #[.int .i64 (F j).1, .int .u32 (F j).2.1, .int .u32 (F j).2.2] 47 ∧ Box wr p20 #[.int .i64 n0, .int .u32 n1, .int .u32 n2] 47 ∧ Lat W6 wr) (fun iv _ => n - (intOf iv).toNat)
      case atStart => exact ⟨0, by omega, rfl, by rw [F0.out]; exact X22.out, X20.out, B6.out⟩
      case round =>
        obtain ⟨j, hj, rfl, h1, h2, h3⟩ := hrel
        clear X22 X20 B6 R
        have X22 := Lib.hid h1
        have X20 := Lib.hid h2
        have B6 := Lib.hid h3
        clear h1 h2 h3
        have D1 := Lib.hid (D15.out.below (Lat.out8 (Lat.trans6 B56.out B6.out)))
        have BB := Lib.hid (BB5.out.trans (((Lat.out8 (Lat.trans6 B56.out B6.out))).mono BB5.out.size))
        have R := Lib.hid (R5.out.below (Lat.out8 (Lat.trans6 B56.out B6.out)))
        have y0 := D1.out.cell 0
        have y1 := D1.out.cell 1
        have y2 := D1.out.cell 2
        have y3 := D1.out.cell 3
        simp at y0 y1 y2 y3
        by_cases hlt : j < n
        case neg =>
          obtain rfl : j = n := by omega
          rw [← DK.out] at X22
          have qN : ∀ w, (binOp .neq 47 (.agg #[.int .i64 n0, .int .u32 n1, .int .u32 n2]) (.agg #[.int .i64 n0, .int .u32 n1, .int .u32 n2])).run Tryd.prog w = .ok (.bool false) w := fun w => by rw [neqW, eqW_dec, decide_eq_true rfl]; rfl
          have x0 := X22.out.cell 0
          have x1 := X22.out.cell 1
          have x2 := X22.out.cell 2
          simp at x0 x1 x2
          have z0 := X20.out.cell 0
          have z1 := X20.out.cell 1
          have z2 := X20.out.cell 2
          simp at z0 z1 z2
          go_wp2_with fail
          go_roundw
          case rel => exact ⟨k + 1, by omega, by go_num, B6.out⟩
          case measure => simp [intOf]; omega
        have FS := Lib.hid (F1.out j)
        obtain ⟨vb, voff, rfl, hvb, hvl, hc⟩ := HV.out.addr hlt
        have CC := Lib.hid (fun W' (h : Below w.heap.size w W') => (show W'.cell? ⟨vb, voff + j * 6, none⟩ = some (.int .i64 (L[j]!).1) ∧ W'.cell? ⟨vb, voff + j * 6 + 1, none⟩ = some (.int .i64 (L[j]!).2.1.1) ∧ W'.cell? ⟨vb, voff + j * 6 + 2, none⟩ = some (.int .u32 (L[j]!).2.1.2.1) ∧ W'.cell? ⟨vb, voff + j * 6 + 3, none⟩ = some (.int .u32 (L[j]!).2.1.2.2) ∧ W'.cell? ⟨vb, voff + j * 6 + 4, none⟩ = some (.int .i64 (L[j]!).2.2.1) ∧ W'.cell? ⟨vb, voff + j * 6 + 5, none⟩ = some (.bool (L[j]!).2.2.2) from by
          obtain ⟨t0, t1, t2, t3, t4, t5⟩ := en_cells hc (by rw [hvl]; exact hlt)
          exact ⟨(h.cell hvb).trans t0, (h.cell hvb).trans t1, (h.cell hvb).trans t2, (h.cell hvb).trans t3, (h.cell hvb).trans t4, (h.cell hvb).trans t5⟩))
        clear hc hvl hvb
        obtain ⟨z, hz⟩ : ∃ z, L[j]! = z := ⟨_, rfl⟩
        rw [hz] at CC FS
        clear hz
        obtain ⟨e0, ⟨e1, e2, e3⟩, e4, e5⟩ := z
        unfold hitE at FS
        simp only at CC FS
        obtain ⟨c0, c1, c2, c3, c4, c5⟩ := CC.out _ BB.out
        go_upto_region 30 with fail
        clear c0 c1 c2 c3 c4 c5 CC
        have E24 := Lib.hid (Box.new wr #[.int .i64 e0, .int .i64 e1, .int .u32 e2, .int .u32 e3, .int .i64 e4, .bool e5] 49 rfl)
        have B1 := Lib.hid (below1 wr (.cells #[.int .i64 e0, .int .i64 e1, .int .u32 e2, .int .u32 e3, .int .i64 e4, .bool e5] 49))
        have N24 := Lib.hid (show p22 ≠ wr.heap.size from by have := X22.out.lt; omega)
        replace X22 := Lib.hid (X22.out.below B1.out)
        replace X20 := Lib.hid (X20.out.below B1.out)
        replace R := Lib.hid (R.out.below B1.out)
        replace BB := Lib.hid (BB.out.trans (B1.out.mono BB.out.size))
        replace B6 := Lib.hid (Lat.below B6.out B1.out)
        clear B1
        generalize wr.alloc (.cells #[.int .i64 e0, .int .i64 e1, .int .u32 e2, .int .u32 e3, .int .i64 e4, .bool e5] 49) = W11 at *
        generalize wr.heap.size = p24 at *
        obtain ⟨⟨d0, d1, d2⟩, -, -, -⟩ := R.out.at3 (i := k) (by rw [FM.out]; exact hlt2)
        rw [HMW.out] at d0 d1 d2
        simp only at d0 d1 d2
        have v0 := E24.out.cell 0
        have v1 := E24.out.cell 1
        have v2 := E24.out.cell 2
        have v3 := E24.out.cell 3
        have v4 := E24.out.cell 4
        have v5 := E24.out.cell 5
        simp at v0 v1 v2 v3 v4 v5
        by_cases h4 : e0 = (k : Int)
        case neg =>
          have h4' : (e0 == (k : Int)) = false := by rw [beq_eq_false_iff_ne]; exact h4
          clear y0 y1 y2 y3
          go_wp2_with fail
          go_roundw
          case rel => exact ⟨j + 1, by omega, by go_num, by rw [FS.out, if_neg (by rw [decide_eq_false h4]; simp)]; exact X22.out, X20.out, B6.out⟩
          case measure => simp [intOf]; omega
        have h4' : (e0 == (k : Int)) = true := by rw [beq_iff_eq]; exact h4
        cases e5 with
        | false =>
          clear y0 y1 y2 y3
          go_wp2_with fail
          go_roundw
          case rel => exact ⟨j + 1, by omega, by go_num, by rw [FS.out, if_neg (by simp)]; exact X22.out, X20.out, B6.out⟩
          case measure => simp [intOf]; omega
        | true =>
        by_cases h5 : (ρ : Int) = r
        case neg =>
          have h5' : ((ρ : Int) == r) = false := by rw [beq_eq_false_iff_ne]; exact h5
          have on0 : on = false := by rw [← ON.out, decide_eq_false h5]; rfl
          clear y0 y1 y2 y3
          have ON0 := Lib.hid on0
          clear on0
          go_wp2_with fail
          go_roundw
          case rel => exact ⟨j + 1, by omega, by go_num, by rw [FS.out, if_neg (by rw [ON0.out]; simp)]; exact X22.out, X20.out, B6.out⟩
          case measure => simp [intOf]; omega
        have h5' : ((ρ : Int) == r) = true := by rw [beq_iff_eq]; exact h5
        by_cases h6 : (s : Int) = 1
        case neg =>
          have h6' : ((s : Int) == 1) = false := by rw [beq_eq_false_iff_ne]; exact h6
          have on0 : on = false := by rw [← ON.out, decide_eq_false h6, Bool.and_false]
          clear y0 y1 y2 y3
          have ON0 := Lib.hid on0
          clear on0
          go_wp2_with fail
          go_roundw
          case rel => exact ⟨j + 1, by omega, by go_num, by rw [FS.out, if_neg (by rw [ON0.out]; simp)]; exact X22.out, X20.out, B6.out⟩
          case measure => simp [intOf]; omega
        have h6' : ((s : Int) == 1) = true := by rw [beq_iff_eq]; exact h6
        have on1 : on = true := by rw [← ON.out, decide_eq_true h5, decide_eq_true h6]; rfl
        have FT := Lib.hid (FS.out.trans (if_pos ⟨by rw [decide_eq_true h4]; rfl, on1⟩))
        clear FS h4 h5 h6 on1 y0 y1 y2 y3
        go_upto_region 31 with fail
        have x0 := X22.out.cell 0
        have x1 := X22.out.cell 1
        have x2 := X22.out.cell 2
        simp at x0 x1 x2
        have f0 := X22.out.free 0
        have f1 := X22.out.free 1
        have f2 := X22.out.free 2
        have lx := X22.out.lt
        have mixed : Tryd.prog.follows Departure.mixedOrders = true := by kernel_rfl
        go_big_region_o
        clear x0 x1 x2 f0 f1 f2 lx d0 d1 d2 v0 v1 v2 v3 v4 v5 h4' h5' h6' mixed
        have S0 := Lib.hid (show Box (((W11.setCell ⟨p22, 0, none⟩ (.int .i64 e4)).setCell ⟨p22, 1, none⟩ (.int .u32 ((m1 + 1) % 4294967296))).setCell ⟨p22, 2, none⟩ (.int .u32 0)) p22 #[.int .i64 e4, .int .u32 ((m1 + 1) % 4294967296), .int .u32 0] 47 from ((X22.out.set 0 (.int .i64 e4)).set 1 (.int .u32 ((m1 + 1) % 4294967296))).set 2 (.int .u32 0))
        have S1 := Lib.hid (((X20.out.other N22.out 0 (.int .i64 e4)).other N22.out 1 (.int .u32 ((m1 + 1) % 4294967296))).other N22.out 2 (.int .u32 0))
        have S2 := Lib.hid (Lat.put (Lat.put (Lat.put B6.out p22 P22.out 0 (.int .i64 e4)) p22 P22.out 1 (.int .u32 ((m1 + 1) % 4294967296))) p22 P22.out 2 (.int .u32 0))
        generalize ((W11.setCell ⟨p22, 0, none⟩ (.int .i64 e4)).setCell ⟨p22, 1, none⟩ (.int .u32 ((m1 + 1) % 4294967296))).setCell ⟨p22, 2, none⟩ (.int .u32 0) = W12 at *
        have T0 := Lib.hid (S0.out.below ((Below.refl W12.heap.size W12).drew))
        have T1 := Lib.hid (S1.out.below ((Below.refl W12.heap.size W12).drew))
        have T2 := Lib.hid (Lat.below S2.out ((Below.refl W12.heap.size W12).drew))
        clear S0 S1 S2 X22 X20 B6 R BB E24 D1
        generalize W12.drew = W13 at *
        go_wp2_with fail
        go_roundw
        case rel => exact ⟨j + 1, by omega, by go_num, by rw [FT.out]; exact T0.out, T1.out, T2.out⟩
        case measure => simp [intOf]; omega
end Go.Proofs.YtfegeahieajmkaaDoor
