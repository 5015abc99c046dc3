/- The walk through DescWords. -/
import Derived.Test.YtfegeahieajmkaaDoorDsWant
import Derived.Deep.DeepCutAuto
namespace Go.Proofs.YtfegeahieajmkaaDoor
open Go.ChangeShapes Go.WideShapes Go.ChangeAt Go.RowKit Go.Maps
open Lay (startL checkI placeI mayI sizeI Ok starts checkI_ok)
/-- A world behind a. -/
def Lat (a w : World) : Prop := Below a.heap.size a w
theorem Lat.below {a w w1 : World} (h : Lat a w) (hb : Below w.heap.size w w1) : Lat a w1 := Below.trans h (hb.mono (Below.size h))
set_option maxRecDepth 100000 in
set_option maxHeartbeats 12800000 in
theorem words_walk (qa qb qc : Nat) (a b c : Int) (v : Value) (L : List En) (w : World) (hg : Lay.Gl w) (h1 : qa < 256) (h2 : qb < 256) (h3 : qc < 256) (ha : -9223372036854775808 ≤ a ∧ a < 9223372036854775808) (_ : -9223372036854775808 ≤ b ∧ b < 9223372036854775808) (_ : -9223372036854775808 ≤ c ∧ c < 9223372036854775808) (hv : ES w v L) (_ : ∀ e ∈ L, OkE e) (_ : L.length ≤ maxLen) : Calls Tryd.prog 3 #[.agg #[.int .u8 qa, .int .u8 qb, .int .u8 qc], .agg #[.int .i64 a, .int .i64 b, .int .i64 c, v]] w (Good w) := by
  have HG := Lib.hid hg
  have HG0 := HG
  have HV := Lib.hid hv
  have GR := Lib.hid (fun W h => great_any v L W (hv.below h))
  have OK := Lib.hid (plan_ok (a := qa) (b := qb) (c := qc))
  have PA := Lib.hid (fun W h => plan_any qa qb qc W h h1 h2 h3)
  obtain ⟨T, hT⟩ : ∃ x, 1 + qa % 4 = x := ⟨_, rfl⟩
  obtain ⟨C, hC⟩ : ∃ x, 8 + qb % 40 = x := ⟨_, rfl⟩
  obtain ⟨B, hB⟩ : ∃ x, qc % 12 = x := ⟨_, rfl⟩
  rw [hT, hC, hB] at OK PA
  clear hT hC hB
  obtain ⟨a1, cp, rfl, hcap⟩ := hv.form
  obtain ⟨n, hn⟩ : ∃ n, L.length = n := ⟨_, rfl⟩
  rw [hn] at HV hcap GR ⊢
  have HN := Lib.hid hn
  clear hv hg hn
  go_enter Tryd.func3, Tryd.ntmps3
  go_upto_region 1 with fail
  have B1 := Lib.hid (below1 w (.cells #[.int .u8 qa, .int .u8 qb, .int .u8 qc] 22))
  have B2 := Lib.hid (below1 (w.alloc (.cells #[.int .u8 qa, .int .u8 qb, .int .u8 qc] 22)) (.cells #[.int .i64 a, .int .i64 b, .int .i64 c, .slice a1 n cp] 25))
  have BB := Lib.hid (B1.out.trans (B2.out.mono B1.out.size))
  have QQ := Lib.hid ((Box.new w #[.int .u8 qa, .int .u8 qb, .int .u8 qc] 22 rfl).below B2.out)
  have D3 := Lib.hid (Box.new (w.alloc (.cells #[.int .u8 qa, .int .u8 qb, .int .u8 qc] 22)) #[.int .i64 a, .int .i64 b, .int .i64 c, .slice a1 n cp] 25 (n := w.heap.size + 1) (by simp))
  replace HG := Lib.hid (HG.out.below BB.out)
  obtain ⟨W, hW⟩ : ∃ W, ((w.alloc (.cells #[.int .u8 qa, .int .u8 qb, .int .u8 qc] 22)).alloc (.cells #[.int .i64 a, .int .i64 b, .int .i64 c, .slice a1 n cp] 25)) = W := ⟨_, rfl⟩
  obtain ⟨q, hq⟩ : ∃ q, w.heap.size = q := ⟨_, rfl⟩
  rw [hW] at BB QQ D3 HG
  rw [hq] at QQ D3
  rw [hW, hq]
  clear hW hq B1 B2
  have y0 := D3.out.cell 0
  have y1 := D3.out.cell 1
  have y2 := D3.out.cell 2
  have y3 := D3.out.cell 3
  simp at y0 y1 y2 y3
  go_wp2_with fail
  refine (GR.out _ BB.out).mono ?_
  rintro e w1 ⟨rfl, hw⟩
  obtain rfl := hw
  clear GR
  by_cases h40 : 40 < n
  · rw [decide_eq_true h40]
    go_wp2_with fail
    refine (awake_any _ HG.out).mono ?_
    rintro e w9 ⟨rfl, hb⟩
    replace BB := Lib.hid (BB.out.trans (hb.mono BB.out.size))
    clear hb
    go_wp2_with fail
    go_ret
    exact ⟨rfl, BB.out⟩
  rw [decide_eq_false h40]
  have hl : L.length ≤ 1000 := by rw [HN.out]; omega
  have h40' : n ≤ 40 := by omega
  clear h40
  have x0 := QQ.out.cell 0
  have x1 := QQ.out.cell 1
  have x2 := QQ.out.cell 2
  simp at x0 x1 x2
  go_wp2_with fail
  refine (PA.out _ HG.out).mono ?_
  rintro e w2 ⟨⟨u, rfl, hu⟩, hb⟩
  replace D3 := Lib.hid (D3.out.below hb)
  replace HG := Lib.hid (HG.out.below hb)
  replace BB := Lib.hid (BB.out.trans (hb.mono BB.out.size))
  clear hb x0 x1 x2 QQ PA y0 y1 y2 y3
  have SU := Lib.hid hu
  have RP := Lib.hid (fun W h => rplace_any T C B u a W OK.out (hu.below h) ha)
  have RM := Lib.hid (fun x W h => rmay_any T C B u x W OK.out (hu.below h))
  have RF := Lib.hid (fun W h h' => rfits_any T C B u a b c _ L W OK.out (hu.below h) (HV.out.below h') hl ha)
  obtain ⟨ua, uc, rfl, _⟩ := hu.form
  clear hu
  rw [mayBs_len] at SU RP RM RF ⊢
  unfold PlV at *
  obtain ⟨pn, hpn⟩ : ∃ n, startL T C B 7 = n := ⟨_, rfl⟩
  obtain ⟨s4, hs4⟩ : ∃ n, startL T C B 4 = n := ⟨_, rfl⟩
  obtain ⟨rm, hrm⟩ : ∃ n, roomsI T C B = n := ⟨_, rfl⟩
  rw [hpn] at SU RP RM RF ⊢
  rw [hs4, hrm] at RP RM RF ⊢
  clear hpn hs4 hrm
  have WA := Lib.hid (fun W h h' => words_any T C B a b c _ L W h (HV.out.below h') hl ha.2)
  have EC := Lib.hid (fun W h => checkL_any _ L W (HV.out.below h) hl)
  have RW := Lib.hid (fun W h => rwords_any a b c _ L W (HV.out.below h) hl)
  have CH := Lib.hid (chkD_of OK.out a b c L)
  have PR := Lib.hid (place_room OK.out a)
  obtain ⟨pa, hpa⟩ : ∃ x, (placeI T C B a).1 = x := ⟨_, rfl⟩
  obtain ⟨pm, hpm⟩ : ∃ x, (placeI T C B a).2 = x := ⟨_, rfl⟩
  have HPA : Hid ((pa = -1 ∧ pm = 0) ∨ (0 ≤ pa ∧ pm ≠ 0)) := Lib.hid (by
    rcases PR.out with h | ⟨x, m, h, hm, _, _⟩
    · left; rw [← hpa, ← hpm, h]; exact ⟨rfl, rfl⟩
    · right; rw [← hpa, ← hpm, h]; simp only; rcases hm with rfl | rfl <;> omega)
  rw [hpa, hpm] at RP
  rw [hpm, HN.out] at CH
  obtain ⟨r, hr⟩ : ∃ x, chkD T C B (a, b, c, L) = x := ⟨_, rfl⟩
  rw [hr] at WA RF CH
  clear hpa hpm PR hr
  go_upto_region 6 with fail
  have B1 := Lib.hid (below1 w2 (.cells #[.int .i64 T, .int .i64 C, .int .i64 B] 29))
  have B2 := Lib.hid (below1 (w2.alloc (.cells #[.int .i64 T, .int .i64 C, .int .i64 B] 29)) (.cells #[.int .i64 T, .int .i64 B, .int .i64 s4, .int .i64 rm, .int .i64 104, .int .i64 32, .slice ua pn uc, .int .i64 pn] 32))
  have L5 := Lib.hid ((Box.new w2 #[.int .i64 T, .int .i64 C, .int .i64 B] 29 rfl).below B2.out)
  have P6 := Lib.hid (Box.new (w2.alloc (.cells #[.int .i64 T, .int .i64 C, .int .i64 B] 29)) #[.int .i64 T, .int .i64 B, .int .i64 s4, .int .i64 rm, .int .i64 104, .int .i64 32, .slice ua pn uc, .int .i64 pn] 32 (n := w2.heap.size + 1) (by simp))
  have B3 := Lib.hid (B1.out.trans (B2.out.mono B1.out.size))
  replace D3 := Lib.hid (D3.out.below B3.out)
  replace HG := Lib.hid (HG.out.below B3.out)
  replace BB := Lib.hid (BB.out.trans (B3.out.mono BB.out.size))
  clear B1 B2
  generalize (w2.alloc (.cells #[.int .i64 T, .int .i64 C, .int .i64 B] 29)).alloc (.cells #[.int .i64 T, .int .i64 B, .int .i64 s4, .int .i64 rm, .int .i64 104, .int .i64 32, .slice ua pn uc, .int .i64 pn] 32) = W2 at *
  obtain ⟨p5, hp5⟩ : ∃ x, w2.heap.size = x := ⟨_, rfl⟩
  rw [hp5] at L5 P6 ⊢
  clear hp5
  have x0 := L5.out.cell 0
  have x1 := L5.out.cell 1
  have x2 := L5.out.cell 2
  simp at x0 x1 x2
  have y0 := D3.out.cell 0
  have y1 := D3.out.cell 1
  have y2 := D3.out.cell 2
  have y3 := D3.out.cell 3
  simp at y0 y1 y2 y3
  go_wp2_with fail
  refine (WA.out _ HG.out BB.out).mono ?_
  rintro e w3 ⟨x, rfl, hx1, hx2, ⟨xa, xn, xc, rfl⟩, hb⟩
  replace D3 := Lib.hid (D3.out.below hb)
  replace HG := Lib.hid (HG.out.below hb)
  replace P6 := Lib.hid (P6.out.below hb)
  replace BB := Lib.hid (BB.out.trans (hb.mono BB.out.size))
  replace B3 := Lib.hid (B3.out.trans (hb.mono B3.out.size))
  have X1 := Lib.hid hx1
  have X2 := Lib.hid hx2
  clear hb x0 x1 x2 y0 y1 y2 y3 hx1 hx2 WA L5
  have y0 := D3.out.cell 0
  have y1 := D3.out.cell 1
  have y2 := D3.out.cell 2
  have y3 := D3.out.cell 3
  simp at y0 y1 y2 y3
  go_upto_region 8 with fail
  have M0 := Lib.hid (Box.new w3 #[.int .i64 a, .int .i64 b, .int .i64 c, .slice a1 n cp] 39 rfl)
  have B1 := Lib.hid (below1 w3 (.cells #[.int .i64 a, .int .i64 b, .int .i64 c, .slice a1 n cp] 39))
  replace D3 := Lib.hid (D3.out.below B1.out)
  replace HG := Lib.hid (HG.out.below B1.out)
  replace P6 := Lib.hid (P6.out.below B1.out)
  replace BB := Lib.hid (BB.out.trans (B1.out.mono BB.out.size))
  replace B3 := Lib.hid (B3.out.trans (B1.out.mono B3.out.size))
  replace X1 := Lib.hid (fun h => (X1.out h).below B1.out)
  clear B1 y0 y1 y2 y3
  generalize w3.alloc (.cells #[.int .i64 a, .int .i64 b, .int .i64 c, .slice a1 n cp] 39) = W3 at *
  generalize w3.heap.size = p10 at *
  have y0 := D3.out.cell 0
  have y1 := D3.out.cell 1
  have y2 := D3.out.cell 2
  have y3 := D3.out.cell 3
  simp at y0 y1 y2 y3
  have x0 := P6.out.cell 0
  have x1 := P6.out.cell 1
  have x2 := P6.out.cell 2
  have x3 := P6.out.cell 3
  have x4 := P6.out.cell 4
  have x5 := P6.out.cell 5
  have x6 := P6.out.cell 6
  have x7 := P6.out.cell 7
  simp at x0 x1 x2 x3 x4 x5 x6 x7
  go_wp2_with fail
  refine (RP.out _ B3.out).mono ?_
  rintro e w4 ⟨rfl, hb⟩
  replace D3 := Lib.hid (D3.out.below hb)
  replace HG := Lib.hid (HG.out.below hb)
  replace P6 := Lib.hid (P6.out.below hb)
  replace M0 := Lib.hid (M0.out.below hb)
  replace BB := Lib.hid (BB.out.trans (hb.mono BB.out.size))
  replace B3 := Lib.hid (B3.out.trans (hb.mono B3.out.size))
  replace X1 := Lib.hid (fun h => (X1.out h).below hb)
  clear hb y0 y1 y2 y3 x0 x1 x2 x3 x4 x5 x6 x7 RP
  have y0 := D3.out.cell 0
  have y1 := D3.out.cell 1
  have y2 := D3.out.cell 2
  have y3 := D3.out.cell 3
  simp at y0 y1 y2 y3
  go_wp2_with fail
  refine (EC.out _ BB.out).mono ?_
  rintro e W9 ⟨rfl, hb⟩
  replace D3 := Lib.hid (D3.out.below hb)
  replace HG := Lib.hid (HG.out.below hb)
  replace P6 := Lib.hid (P6.out.below hb)
  replace M0 := Lib.hid (M0.out.below hb)
  replace BB := Lib.hid (BB.out.trans (hb.mono BB.out.size))
  replace B3 := Lib.hid (B3.out.trans (hb.mono B3.out.size))
  replace X1 := Lib.hid (fun h => (X1.out h).below hb)
  clear hb y0 y1 y2 y3 EC
  have N8 := Lib.hid (show chkL L = 0 → 1 ≤ n from fun h => by
    rcases Nat.eq_zero_or_pos n with h0 | h0
    · unfold chkL at h; rw [HN.out, if_pos h0] at h; cases h
    · exact h0)
  obtain ⟨ce, hce⟩ : ∃ x, chkL L = x := ⟨_, rfl⟩
  rw [hce] at CH N8
  rw [hce]
  clear hce
  have e := CH.out
  clear CH
  rcases HPA.out with ⟨rfl, rfl⟩ | ⟨hp0, hpm0⟩
  · rw [if_pos (by omega)] at e
    subst e
    have e9 := X2.out (show (3 : Int) ≠ 0 by decide)
    injection e9 with e9a e9b e9c
    subst e9a e9b e9c
    have y0 := D3.out.cell 0
    have y1 := D3.out.cell 1
    have y2 := D3.out.cell 2
    have y3 := D3.out.cell 3
    simp at y0 y1 y2 y3
    have x0 := P6.out.cell 0
    have x1 := P6.out.cell 1
    have x2 := P6.out.cell 2
    have x3 := P6.out.cell 3
    have x4 := P6.out.cell 4
    have x5 := P6.out.cell 5
    have x6 := P6.out.cell 6
    have x7 := P6.out.cell 7
    simp at x0 x1 x2 x3 x4 x5 x6 x7
    have z0 := M0.out.cell 0
    have z1 := M0.out.cell 1
    have z2 := M0.out.cell 2
    have z3 := M0.out.cell 3
    simp at z0 z1 z2 z3
    go_wp2_with fail
    refine (RF.out _ B3.out BB.out).mono ?_
    rintro e w5 ⟨rfl, hb⟩
    rw [decide_eq_false (show (3 : Int) ≠ 0 by decide)]
    replace HG := Lib.hid (HG.out.below hb)
    replace BB := Lib.hid (BB.out.trans (hb.mono BB.out.size))
    clear hb y0 y1 y2 y3 x0 x1 x2 x3 x4 x5 x6 x7 z0 z1 z2 z3
    go_wp2_with fail
    refine (awake_any _ HG.out).mono ?_
    rintro e w9 ⟨rfl, hb⟩
    replace BB := Lib.hid (BB.out.trans (hb.mono BB.out.size))
    clear hb
    go_wp2_with fail
    go_ret
    exact ⟨rfl, BB.out⟩
  have hp1 : ¬ pa < 0 := by omega
  by_cases hs1 : b < 1
  · rw [if_pos (by omega)] at e
    subst e
    have e9 := X2.out (show (3 : Int) ≠ 0 by decide)
    injection e9 with e9a e9b e9c
    subst e9a e9b e9c
    have y0 := D3.out.cell 0
    have y1 := D3.out.cell 1
    have y2 := D3.out.cell 2
    have y3 := D3.out.cell 3
    simp at y0 y1 y2 y3
    have x0 := P6.out.cell 0
    have x1 := P6.out.cell 1
    have x2 := P6.out.cell 2
    have x3 := P6.out.cell 3
    have x4 := P6.out.cell 4
    have x5 := P6.out.cell 5
    have x6 := P6.out.cell 6
    have x7 := P6.out.cell 7
    simp at x0 x1 x2 x3 x4 x5 x6 x7
    have z0 := M0.out.cell 0
    have z1 := M0.out.cell 1
    have z2 := M0.out.cell 2
    have z3 := M0.out.cell 3
    simp at z0 z1 z2 z3
    go_wp2_with fail
    refine (RF.out _ B3.out BB.out).mono ?_
    rintro e w5 ⟨rfl, hb⟩
    rw [decide_eq_false (show (3 : Int) ≠ 0 by decide)]
    replace HG := Lib.hid (HG.out.below hb)
    replace BB := Lib.hid (BB.out.trans (hb.mono BB.out.size))
    clear hb y0 y1 y2 y3 x0 x1 x2 x3 x4 x5 x6 x7 z0 z1 z2 z3
    go_wp2_with fail
    refine (awake_any _ HG.out).mono ?_
    rintro e w9 ⟨rfl, hb⟩
    replace BB := Lib.hid (BB.out.trans (hb.mono BB.out.size))
    clear hb
    go_wp2_with fail
    go_ret
    exact ⟨rfl, BB.out⟩
  by_cases hs2 : 16777215 < b
  · rw [if_pos (by omega)] at e
    subst e
    have e9 := X2.out (show (3 : Int) ≠ 0 by decide)
    injection e9 with e9a e9b e9c
    subst e9a e9b e9c
    have y0 := D3.out.cell 0
    have y1 := D3.out.cell 1
    have y2 := D3.out.cell 2
    have y3 := D3.out.cell 3
    simp at y0 y1 y2 y3
    have x0 := P6.out.cell 0
    have x1 := P6.out.cell 1
    have x2 := P6.out.cell 2
    have x3 := P6.out.cell 3
    have x4 := P6.out.cell 4
    have x5 := P6.out.cell 5
    have x6 := P6.out.cell 6
    have x7 := P6.out.cell 7
    simp at x0 x1 x2 x3 x4 x5 x6 x7
    have z0 := M0.out.cell 0
    have z1 := M0.out.cell 1
    have z2 := M0.out.cell 2
    have z3 := M0.out.cell 3
    simp at z0 z1 z2 z3
    go_wp2_with fail
    refine (RF.out _ B3.out BB.out).mono ?_
    rintro e w5 ⟨rfl, hb⟩
    rw [decide_eq_false (show (3 : Int) ≠ 0 by decide)]
    replace HG := Lib.hid (HG.out.below hb)
    replace BB := Lib.hid (BB.out.trans (hb.mono BB.out.size))
    clear hb y0 y1 y2 y3 x0 x1 x2 x3 x4 x5 x6 x7 z0 z1 z2 z3
    go_wp2_with fail
    refine (awake_any _ HG.out).mono ?_
    rintro e w9 ⟨rfl, hb⟩
    replace BB := Lib.hid (BB.out.trans (hb.mono BB.out.size))
    clear hb
    go_wp2_with fail
    go_ret
    exact ⟨rfl, BB.out⟩
  rw [if_neg (by omega)] at e
  by_cases ht1 : c < 0
  · rw [if_pos (by omega)] at e
    subst e
    have e9 := X2.out (show (2 : Int) ≠ 0 by decide)
    injection e9 with e9a e9b e9c
    subst e9a e9b e9c
    have y0 := D3.out.cell 0
    have y1 := D3.out.cell 1
    have y2 := D3.out.cell 2
    have y3 := D3.out.cell 3
    simp at y0 y1 y2 y3
    have x0 := P6.out.cell 0
    have x1 := P6.out.cell 1
    have x2 := P6.out.cell 2
    have x3 := P6.out.cell 3
    have x4 := P6.out.cell 4
    have x5 := P6.out.cell 5
    have x6 := P6.out.cell 6
    have x7 := P6.out.cell 7
    simp at x0 x1 x2 x3 x4 x5 x6 x7
    have z0 := M0.out.cell 0
    have z1 := M0.out.cell 1
    have z2 := M0.out.cell 2
    have z3 := M0.out.cell 3
    simp at z0 z1 z2 z3
    go_wp2_with fail
    refine (RF.out _ B3.out BB.out).mono ?_
    rintro e w5 ⟨rfl, hb⟩
    rw [decide_eq_false (show (2 : Int) ≠ 0 by decide)]
    replace HG := Lib.hid (HG.out.below hb)
    replace BB := Lib.hid (BB.out.trans (hb.mono BB.out.size))
    clear hb y0 y1 y2 y3 x0 x1 x2 x3 x4 x5 x6 x7 z0 z1 z2 z3
    go_wp2_with fail
    refine (awake_any _ HG.out).mono ?_
    rintro e w9 ⟨rfl, hb⟩
    replace BB := Lib.hid (BB.out.trans (hb.mono BB.out.size))
    clear hb
    go_wp2_with fail
    go_ret
    exact ⟨rfl, BB.out⟩
  by_cases ht2 : 3 < c
  · rw [if_pos (by omega)] at e
    subst e
    have e9 := X2.out (show (2 : Int) ≠ 0 by decide)
    injection e9 with e9a e9b e9c
    subst e9a e9b e9c
    have y0 := D3.out.cell 0
    have y1 := D3.out.cell 1
    have y2 := D3.out.cell 2
    have y3 := D3.out.cell 3
    simp at y0 y1 y2 y3
    have x0 := P6.out.cell 0
    have x1 := P6.out.cell 1
    have x2 := P6.out.cell 2
    have x3 := P6.out.cell 3
    have x4 := P6.out.cell 4
    have x5 := P6.out.cell 5
    have x6 := P6.out.cell 6
    have x7 := P6.out.cell 7
    simp at x0 x1 x2 x3 x4 x5 x6 x7
    have z0 := M0.out.cell 0
    have z1 := M0.out.cell 1
    have z2 := M0.out.cell 2
    have z3 := M0.out.cell 3
    simp at z0 z1 z2 z3
    go_wp2_with fail
    refine (RF.out _ B3.out BB.out).mono ?_
    rintro e w5 ⟨rfl, hb⟩
    rw [decide_eq_false (show (2 : Int) ≠ 0 by decide)]
    replace HG := Lib.hid (HG.out.below hb)
    replace BB := Lib.hid (BB.out.trans (hb.mono BB.out.size))
    clear hb y0 y1 y2 y3 x0 x1 x2 x3 x4 x5 x6 x7 z0 z1 z2 z3
    go_wp2_with fail
    refine (awake_any _ HG.out).mono ?_
    rintro e w9 ⟨rfl, hb⟩
    replace BB := Lib.hid (BB.out.trans (hb.mono BB.out.size))
    clear hb
    go_wp2_with fail
    go_ret
    exact ⟨rfl, BB.out⟩
  rw [if_neg (by omega)] at e
  by_cases hce0 : ce = 0
  case neg =>
    rw [if_pos hce0] at e
    subst e
    have hce1 : (r != 0) = true := by rw [bne_iff_ne]; exact hce0
    have hce2 : (r == 0) = false := by rw [beq_eq_false_iff_ne]; exact hce0
    have hce3 : (r != r) = false := by simp
    have e9 := X2.out hce0
    injection e9 with e9a e9b e9c
    subst e9a e9b e9c
    have y0 := D3.out.cell 0
    have y1 := D3.out.cell 1
    have y2 := D3.out.cell 2
    have y3 := D3.out.cell 3
    simp at y0 y1 y2 y3
    have x0 := P6.out.cell 0
    have x1 := P6.out.cell 1
    have x2 := P6.out.cell 2
    have x3 := P6.out.cell 3
    have x4 := P6.out.cell 4
    have x5 := P6.out.cell 5
    have x6 := P6.out.cell 6
    have x7 := P6.out.cell 7
    simp at x0 x1 x2 x3 x4 x5 x6 x7
    have z0 := M0.out.cell 0
    have z1 := M0.out.cell 1
    have z2 := M0.out.cell 2
    have z3 := M0.out.cell 3
    simp at z0 z1 z2 z3
    go_wp2_with fail
    refine (RF.out _ B3.out BB.out).mono ?_
    rintro e w5 ⟨rfl, hb⟩
    rw [decide_eq_false hce0]
    replace HG := Lib.hid (HG.out.below hb)
    replace BB := Lib.hid (BB.out.trans (hb.mono BB.out.size))
    clear hb y0 y1 y2 y3 x0 x1 x2 x3 x4 x5 x6 x7 z0 z1 z2 z3
    go_wp2_with fail
    refine (awake_any _ HG.out).mono ?_
    rintro e w9 ⟨rfl, hb⟩
    replace BB := Lib.hid (BB.out.trans (hb.mono BB.out.size))
    clear hb
    go_wp2_with fail
    go_ret
    exact ⟨rfl, BB.out⟩
  subst hce0
  rw [if_neg (by simp)] at e
  have hn1 := N8.out rfl
  have RE := Lib.hid e
  clear e N8 HPA
  have y0 := D3.out.cell 0
  have y1 := D3.out.cell 1
  have y2 := D3.out.cell 2
  have y3 := D3.out.cell 3
  simp at y0 y1 y2 y3
  go_wp2_with fail
  clear y0 y1 y2 y3
  obtain ⟨W10, hW10⟩ : ∃ x, W9 = x := ⟨_, rfl⟩
  go_loopw [11, 15] (fun sv iv wr => ∃ j m z, j ≤ n ∧ iv = .int .i64 (j : Nat) ∧ sv = .int .i64 z ∧ mayL T C B (L.take j) = m ∧ z = (if m = true then 0 else 10) ∧ Below W9.heap.size W9 wr) (fun _ iv _ => n - (intOf iv).toNat)
  case atStart => exact ⟨0, true, 0, by omega, rfl, rfl, rfl, rfl, Below.refl _ _⟩
  case round =>
    obtain ⟨j, m, z, hj, rfl, rfl, hm, hz, hb⟩ := hrel
    have MM := Lib.hid hm
    have ZZ := Lib.hid hz
    have BW := Lib.hid hb
    replace P6 := Lib.hid (P6.out.below hb)
    replace D3 := Lib.hid (D3.out.below hb)
    replace M0 := Lib.hid (M0.out.below hb)
    replace HG := Lib.hid (HG.out.below hb)
    replace B3 := Lib.hid (B3.out.trans (hb.mono B3.out.size))
    replace BB := Lib.hid (BB.out.trans (hb.mono BB.out.size))
    replace X1 := Lib.hid (fun h => (X1.out h).below hb)
    clear hm hz hb
    by_cases hlt : j < n
    · have TS := Lib.hid (mayL_take (T := T) (C := C) (B := B) L (k := j) (by rw [HN.out]; exact hlt))
      obtain ⟨b0, off, rfl, hbl, hln, hc⟩ := HV.out.addr hlt
      have C0 := Lib.hid (fun W' (h : Below w.heap.size w W') => show W'.cell? ⟨b0, off + j * 6, none⟩ = some (.int .i64 (L[j]!).1) from (h.cell hbl).trans (en_cells hc (by rw [hln]; exact hlt)).1)
      clear hc hln hbl
      obtain ⟨e0, he0⟩ : ∃ y, (L[j]!).1 = y := ⟨_, rfl⟩
      rw [he0] at C0 TS
      clear he0
      have RM0 := Lib.hid (fun W h => RM.out e0 W h)
      have y0 := D3.out.cell 0
      have y1 := D3.out.cell 1
      have y2 := D3.out.cell 2
      have y3 := D3.out.cell 3
      simp at y0 y1 y2 y3
      go_upto_region 20 with fail
      clear y0 y1 y2 y3
      have B4 : Hid (Lat w2 wr) := Lib.hid B3.out
      have BV : Hid (Lat W9 wr) := Lib.hid BW.out
      replace P6 := Lib.hid (P6.out.below ((Below.refl _ _).drew))
      replace D3 := Lib.hid (D3.out.below ((Below.refl _ _).drew))
      replace B4 := Lib.hid (B4.out.below ((Below.refl _ _).drew))
      replace BV := Lib.hid (BV.out.below ((Below.refl _ _).drew))
      replace BB := Lib.hid (BB.out.trans (((Below.refl _ _).drew).mono BB.out.size))
      refine wp_region_held_drew (S := fun w' => w'.cell? ⟨p5 + 1, 0, none⟩ = some (.int .i64 T) ∧ w'.cell? ⟨p5 + 1, 1, none⟩ = some (.int .i64 B) ∧ w'.cell? ⟨p5 + 1, 2, none⟩ = some (.int .i64 s4) ∧ w'.cell? ⟨p5 + 1, 3, none⟩ = some (.int .i64 rm) ∧ w'.cell? ⟨p5 + 1, 4, none⟩ = some (.int .i64 104) ∧ w'.cell? ⟨p5 + 1, 5, none⟩ = some (.int .i64 32) ∧ w'.cell? ⟨p5 + 1, 6, none⟩ = some (.slice ua pn uc) ∧ w'.cell? ⟨p5 + 1, 7, none⟩ = some (.int .i64 pn) ∧ w'.cell? ⟨q + 1, 0, none⟩ = some (.int .i64 a) ∧ w'.cell? ⟨q + 1, 1, none⟩ = some (.int .i64 b) ∧ w'.cell? ⟨q + 1, 2, none⟩ = some (.int .i64 c) ∧ w'.cell? ⟨q + 1, 3, none⟩ = some (.slice (some ⟨b0, off, none⟩) n cp) ∧ w'.cell? ⟨b0, off + j * 6, none⟩ = some (.int .i64 e0)) (by kernel_rfl) ⟨(P6.out.cell 0), (P6.out.cell 1), (P6.out.cell 2), (P6.out.cell 3), (P6.out.cell 4), (P6.out.cell 5), (P6.out.cell 6), (P6.out.cell 7), (D3.out.cell 0), (D3.out.cell 1), (D3.out.cell 2), (D3.out.cell 3), (C0.out _ BB.out)⟩ (fun hHeld => ?_)
      generalize World.drew wr = V30 at *
      refine wpAnyH_take (i := 0) (oi := { dst := some 84, op := Op.load 32 (Operand.tmp 6), type := 32, pos := "law.go:76", after := #[], guard := none }) (v := ?d31_1xv0) rfl (by kernel_rfl) (by kernel_rfl) (by kernel_rfl) (fun _ _ _ h => h) (Or.inl ⟨by rfl, ?d31_1xy0⟩) (by assumption) ?d31_1xr0
      case d31_1xy0 => (intro w hSw; (try dsimp only at hSw); go_simp; try with_reducible rfl)
      (try simp only [Act.put])
      (try simp only [List.setIfInBounds_toArray])
      (try simp only [List.set_cons_succ])
      (try simp only [List.set_cons_zero])
      refine wpAnyH_take (i := 1) (oi := { dst := some 85, op := Op.fieldAddr 25 (Operand.tmp 3) 3, type := 0, pos := "law.go:76", after := #[], guard := none }) (v := ?d31_2xv1) rfl (by kernel_rfl) (by kernel_rfl) (by kernel_rfl) (fun _ _ _ h => h) (Or.inl ⟨by rfl, ?d31_2xy1⟩) (by assumption) ?d31_2xr1
      case d31_2xy1 => (intro w hSw; (try dsimp only at hSw); go_simp; try with_reducible rfl)
      (try simp only [Act.put])
      (try simp only [List.setIfInBounds_toArray])
      (try simp only [List.set_cons_succ])
      (try simp only [List.set_cons_zero])
      refine wpAnyH_take (i := 2) (oi := { dst := some 86, op := Op.load 23 (Operand.tmp 85), type := 23, pos := "law.go:76", after := #[{ on := 1, ground := Ground.data }], guard := none }) (v := ?d31_3xv2) rfl (by kernel_rfl) (by kernel_rfl) (by kernel_rfl) (fun _ _ _ h => h) (Or.inl ⟨by rfl, ?d31_3xy2⟩) (by assumption) ?d31_3xr2
      case d31_3xy2 => (intro w hSw; (try dsimp only at hSw); go_simp; try with_reducible rfl)
      (try simp only [Act.put])
      (try simp only [List.setIfInBounds_toArray])
      (try simp only [List.set_cons_succ])
      (try simp only [List.set_cons_zero])
      refine wpAnyH_take (i := 3) (oi := { dst := some 87, op := Op.move (Operand.tmp 15), type := 3, pos := "law.go:76", after := #[], guard := none }) (v := ?d31_4xv3) rfl (by kernel_rfl) (by kernel_rfl) (by kernel_rfl) (fun _ _ _ h => h) (Or.inl ⟨by rfl, ?d31_4xy3⟩) (by assumption) ?d31_4xr3
      case d31_4xy3 => (intro w hSw; (try dsimp only at hSw); go_simp; try with_reducible rfl)
      (try simp only [Act.put])
      (try simp only [List.setIfInBounds_toArray])
      (try simp only [List.set_cons_succ])
      (try simp only [List.set_cons_zero])
      refine wpAnyH_take (i := 4) (oi := { dst := some 88, op := Op.indexAddr 23 (Operand.tmp 86) (Operand.tmp 87), type := 0, pos := "law.go:76", after := #[{ on := 2, ground := Ground.data }, { on := 3, ground := Ground.data }], guard := none }) (v := ?d31_5xv4) rfl (by kernel_rfl) (by kernel_rfl) (by kernel_rfl) (fun _ _ _ h => h) (Or.inl ⟨by rfl, ?d31_5xy4⟩) (by assumption) ?d31_5xr4
      case d31_5xy4 => (intro w hSw; (try dsimp only at hSw); go_simp; try with_reducible rfl)
      (try simp only [Act.put])
      (try simp only [List.setIfInBounds_toArray])
      (try simp only [List.set_cons_succ])
      (try simp only [List.set_cons_zero])
      refine wpAnyH_take (i := 5) (oi := { dst := some 89, op := Op.fieldAddr 49 (Operand.tmp 88) 0, type := 0, pos := "law.go:76", after := #[{ on := 4, ground := Ground.data }], guard := none }) (v := ?d31_6xv5) rfl (by kernel_rfl) (by kernel_rfl) (by kernel_rfl) (fun _ _ _ h => h) (Or.inl ⟨by rfl, ?d31_6xy5⟩) (by assumption) ?d31_6xr5
      case d31_6xy5 => (intro w hSw; (try dsimp only at hSw); go_simp; try with_reducible rfl)
      (try simp only [Act.put])
      (try simp only [List.setIfInBounds_toArray])
      (try simp only [List.set_cons_succ])
      (try simp only [List.set_cons_zero])
      refine wpAnyH_take (i := 6) (oi := { dst := some 90, op := Op.load 44 (Operand.tmp 89), type := 44, pos := "law.go:76", after := #[{ on := 5, ground := Ground.data }], guard := none }) (v := ?d31_7xv6) rfl (by kernel_rfl) (by kernel_rfl) (by kernel_rfl) (fun _ _ _ h => h) (Or.inl ⟨by rfl, ?d31_7xy6⟩) (by assumption) ?d31_7xr6
      case d31_7xy6 => (intro w hSw; (try dsimp only at hSw); go_simp; try with_reducible rfl)
      (try simp only [Act.put])
      (try simp only [List.setIfInBounds_toArray])
      (try simp only [List.set_cons_succ])
      (try simp only [List.set_cons_zero])
      refine wpAnyH_ready (rs := [7]) (by kernel_rfl) (by simp) ?_
      refine AllReadyH.cons (o := { dst := some 91, op := Op.call { callee := Callee.value (Operand.func 16), args := #[Operand.tmp 84, Operand.tmp 90], argTypes := #[32, 3] }, type := 4, pos := "law.go:76", after := #[{ on := 0, ground := Ground.data }, { on := 6, ground := Ground.data }], guard := none }) rfl (fun K hK => ?_) AllReadyH.nil
      go_simp
      go_at_call 16
      refine (RM0.out _ (B4.out)).mono ?_
      rintro e v31 ⟨rfl, hb⟩
      replace P6 := Lib.hid (P6.out.below (hb))
      replace D3 := Lib.hid (D3.out.below (hb))
      replace B4 := Lib.hid (B4.out.below (hb))
      replace BV := Lib.hid (BV.out.below (hb))
      replace BB := Lib.hid (BB.out.trans ((hb).mono BB.out.size))
      clear hb
      go_simp
      refine hK.out _ _ ?_ (fun hHeld => ?_)
      · exact ⟨(P6.out.cell 0), (P6.out.cell 1), (P6.out.cell 2), (P6.out.cell 3), (P6.out.cell 4), (P6.out.cell 5), (P6.out.cell 6), (P6.out.cell 7), (D3.out.cell 0), (D3.out.cell 1), (D3.out.cell 2), (D3.out.cell 3), (C0.out _ BB.out)⟩
      clear hK K
      (try simp only [Act.put])
      (try simp only [List.setIfInBounds_toArray])
      (try simp only [List.set_cons_succ])
      (try simp only [List.set_cons_zero])
      refine wpAnyH_take (i := 8) (oi := { dst := some 92, op := Op.unOp UnOp.not 4 (Operand.tmp 91), type := 4, pos := "law.go:76", after := #[{ on := 7, ground := Ground.data }], guard := none }) (v := ?d32_8xv8) rfl (by kernel_rfl) (by kernel_rfl) (by kernel_rfl) (fun _ _ _ h => h) (Or.inl ⟨by rfl, ?d32_8xy8⟩) (by assumption) ?d32_8xr8
      case d32_8xy8 => (intro w hSw; (try dsimp only at hSw); go_simp; try with_reducible rfl)
      (try simp only [Act.put])
      (try simp only [List.setIfInBounds_toArray])
      (try simp only [List.set_cons_succ])
      (try simp only [List.set_cons_zero])
      refine wpAnyH_done (by kernel_rfl) ?_ _
      cases hm : mayI T C B e0 with
      | true =>
        go_wp2_with fail
        go_roundw
        case rel => exact ⟨j + 1, m, z, by omega, by go_num, rfl, by rw [TS.out, hm, Bool.and_true]; exact MM.out, ZZ.out, BV.out⟩
        case measure => simp [intOf]; omega
      | false =>
        go_wp2_with fail
        go_roundw
        case rel => exact ⟨j + 1, false, 10, by omega, by go_num, rfl, by rw [TS.out, hm, Bool.and_false], rfl, BV.out⟩
        case measure => simp [intOf]; omega
    · obtain rfl : j = n := by omega
      rw [List.take_of_length_le (by rw [HN.out]; exact Nat.le_refl _)] at MM
      have y0 := D3.out.cell 0
      have y1 := D3.out.cell 1
      have y2 := D3.out.cell 2
      have y3 := D3.out.cell 3
      simp at y0 y1 y2 y3
      go_wp2_with fail
      clear y0 y1 y2 y3
      obtain ⟨z0, hz0⟩ : ∃ x, z = x := ⟨_, rfl⟩
      go_loopw [11, 16] (fun sv iv wx => ∃ i t y, 1 ≤ i ∧ i ≤ j ∧ iv = .int .i64 (i : Nat) ∧ sv = .int .i64 y ∧ ascB (L.take i) = t ∧ y = (if t = true then z else 12) ∧ Below wr.heap.size wr wx) (fun _ iv _ => j - (intOf iv).toNat)
      case atStart => exact ⟨1, true, z, by omega, by omega, rfl, rfl, by rw [ascB_take L (k := 0) (by rw [HN.out]; omega)]; rfl, rfl, Below.refl _ _⟩
      case round =>
        obtain ⟨i, t, y, hi1, hi, rfl, rfl, ht, hy, hb⟩ := hrel
        have TT := Lib.hid ht
        have YY := Lib.hid hy
        have BX := Lib.hid hb
        replace P6 := Lib.hid (P6.out.below hb)
        replace D3 := Lib.hid (D3.out.below hb)
        replace M0 := Lib.hid (M0.out.below hb)
        replace HG := Lib.hid (HG.out.below hb)
        replace B3 := Lib.hid (B3.out.trans (hb.mono B3.out.size))
        replace BB := Lib.hid (BB.out.trans (hb.mono BB.out.size))
        replace X1 := Lib.hid (fun h => (X1.out h).below hb)
        clear ht hy hb
        by_cases hlt : i < j
        · have TS := Lib.hid (ascB_take L (k := i) (by rw [HN.out]; exact hlt))
          obtain ⟨b0, off, rfl, hbl, hln, hc⟩ := HV.out.addr hlt
          have c0 := (BB.out.cell (p := ⟨b0, _, none⟩) hbl).trans (en_cells hc (k := i) (by rw [hln]; exact hlt)).1
          have d0 := (BB.out.cell (p := ⟨b0, _, none⟩) hbl).trans (en_cells hc (k := i - 1) (by rw [hln]; omega)).1
          clear hc hln hbl
          obtain ⟨k, rfl⟩ : ∃ k, i = k + 1 := ⟨i - 1, by omega⟩
          rw [Nat.add_sub_cancel] at d0 TS
          obtain ⟨e0, he0⟩ : ∃ y, (L[k + 1]!).1 = y := ⟨_, rfl⟩
          obtain ⟨e1, he1⟩ : ∃ y, (L[k]!).1 = y := ⟨_, rfl⟩
          rw [he0] at c0 TS
          rw [he1] at d0 TS
          clear he0 he1
          have wm : IntKind.i64.wrap (k : Int) = k := IntWalk.i64_in _ (by omega)
          have hm1 : k < j := by omega
          rw [decide_eq_false (show ¬ k + 1 = 0 by omega), Bool.false_or] at TS
          have y0 := D3.out.cell 0
          have y1 := D3.out.cell 1
          have y2 := D3.out.cell 2
          have y3 := D3.out.cell 3
          simp at y0 y1 y2 y3
          go_upto_region 25 with fail
          by_cases h3 : e0 ≤ e1
          · have d3 : decide (e0 ≤ e1) = true := decide_eq_true h3
            rw [decide_eq_false (show ¬ e1 < e0 by omega), Bool.and_false] at TS
            go_quiet (fail)
            go_wp2_with fail
            go_roundw
            case rel => exact ⟨k + 2, false, 12, by omega, by omega, by go_num, rfl, TS.out, rfl, BX.out.trans (below_drewN (Below.refl _ _) _)⟩
            case measure => simp [intOf]; omega
          · have d3 : decide (e0 ≤ e1) = false := decide_eq_false h3
            rw [decide_eq_true (show e1 < e0 by omega), Bool.and_true] at TS
            go_quiet (fail)
            go_wp2_with fail
            go_roundw
            case rel => exact ⟨k + 2, t, y, by omega, by omega, by go_num, rfl, by rw [TS.out]; exact TT.out, YY.out, BX.out.trans (below_drewN (Below.refl _ _) _)⟩
            case measure => simp [intOf]; omega
        · obtain rfl : i = j := by omega
          rw [List.take_of_length_le (by rw [HN.out]; exact Nat.le_refl _)] at TT
          have LE : Hid (locE T C B L = y) := Lib.hid (by
            unfold locE
            rw [TT.out, MM.out, YY.out, ZZ.out]
            cases t <;> cases m <;> rfl)
          have e := RE.out
          rw [LE.out] at e
          clear RE LE TT YY MM ZZ BW BX
          have y0 := D3.out.cell 0
          have y1 := D3.out.cell 1
          have y2 := D3.out.cell 2
          have y3 := D3.out.cell 3
          simp at y0 y1 y2 y3
          by_cases hy0 : y = 0
          case neg =>
            rw [if_pos hy0] at e
            subst e
            have hy1 : (r == 0) = false := by rw [beq_eq_false_iff_ne]; exact hy0
            have hy2 : (r != r) = false := by simp
            have hy3 : (r != 0) = true := by rw [bne_iff_ne]; exact hy0
            clear y0 y1 y2 y3
            have e9 := X2.out hy0
            injection e9 with e9a e9b e9c
            subst e9a e9b e9c
            have y0 := D3.out.cell 0
            have y1 := D3.out.cell 1
            have y2 := D3.out.cell 2
            have y3 := D3.out.cell 3
            simp at y0 y1 y2 y3
            have x0 := P6.out.cell 0
            have x1 := P6.out.cell 1
            have x2 := P6.out.cell 2
            have x3 := P6.out.cell 3
            have x4 := P6.out.cell 4
            have x5 := P6.out.cell 5
            have x6 := P6.out.cell 6
            have x7 := P6.out.cell 7
            simp at x0 x1 x2 x3 x4 x5 x6 x7
            have z0 := M0.out.cell 0
            have z1 := M0.out.cell 1
            have z2 := M0.out.cell 2
            have z3 := M0.out.cell 3
            simp at z0 z1 z2 z3
            go_wp2_with fail
            refine (RF.out _ B3.out BB.out).mono ?_
            rintro e w5 ⟨rfl, hb⟩
            rw [decide_eq_false hy0]
            replace HG := Lib.hid (HG.out.below hb)
            replace BB := Lib.hid (BB.out.trans (hb.mono BB.out.size))
            clear hb y0 y1 y2 y3 x0 x1 x2 x3 x4 x5 x6 x7 z0 z1 z2 z3
            go_wp2_with fail
            refine (awake_any _ HG.out).mono ?_
            rintro e w9 ⟨rfl, hb⟩
            replace BB := Lib.hid (BB.out.trans (hb.mono BB.out.size))
            clear hb
            go_wp2_with fail
            go_ret
            exact ⟨rfl, BB.out⟩
          subst hy0
          rw [if_neg (by simp)] at e
          by_cases hpn : pm < (i : Int)
          · rw [if_pos hpn] at e
            subst e
            clear y0 y1 y2 y3
            have e9 := X2.out (show (15 : Int) ≠ 0 by decide)
            injection e9 with e9a e9b e9c
            subst e9a e9b e9c
            have y0 := D3.out.cell 0
            have y1 := D3.out.cell 1
            have y2 := D3.out.cell 2
            have y3 := D3.out.cell 3
            simp at y0 y1 y2 y3
            have x0 := P6.out.cell 0
            have x1 := P6.out.cell 1
            have x2 := P6.out.cell 2
            have x3 := P6.out.cell 3
            have x4 := P6.out.cell 4
            have x5 := P6.out.cell 5
            have x6 := P6.out.cell 6
            have x7 := P6.out.cell 7
            simp at x0 x1 x2 x3 x4 x5 x6 x7
            have z0 := M0.out.cell 0
            have z1 := M0.out.cell 1
            have z2 := M0.out.cell 2
            have z3 := M0.out.cell 3
            simp at z0 z1 z2 z3
            go_wp2_with fail
            refine (RF.out _ B3.out BB.out).mono ?_
            rintro e w5 ⟨rfl, hb⟩
            rw [decide_eq_false (show (15 : Int) ≠ 0 by decide)]
            replace HG := Lib.hid (HG.out.below hb)
            replace BB := Lib.hid (BB.out.trans (hb.mono BB.out.size))
            clear hb y0 y1 y2 y3 x0 x1 x2 x3 x4 x5 x6 x7 z0 z1 z2 z3
            go_wp2_with fail
            refine (awake_any _ HG.out).mono ?_
            rintro e w9 ⟨rfl, hb⟩
            replace BB := Lib.hid (BB.out.trans (hb.mono BB.out.size))
            clear hb
            go_wp2_with fail
            go_ret
            exact ⟨rfl, BB.out⟩
          rw [if_neg hpn] at e
          subst e
          clear y0 y1 y2 y3
          have y0 := D3.out.cell 0
          have y1 := D3.out.cell 1
          have y2 := D3.out.cell 2
          have y3 := D3.out.cell 3
          simp at y0 y1 y2 y3
          have x0 := P6.out.cell 0
          have x1 := P6.out.cell 1
          have x2 := P6.out.cell 2
          have x3 := P6.out.cell 3
          have x4 := P6.out.cell 4
          have x5 := P6.out.cell 5
          have x6 := P6.out.cell 6
          have x7 := P6.out.cell 7
          simp at x0 x1 x2 x3 x4 x5 x6 x7
          have v0 := M0.out.cell 0
          have v1 := M0.out.cell 1
          have v2 := M0.out.cell 2
          have v3 := M0.out.cell 3
          simp at v0 v1 v2 v3
          go_wp2_with fail
          refine (RF.out _ B3.out BB.out).mono ?_
          rintro e w5 ⟨rfl, hb⟩
          first | rw [decide_true] | rw [decide_eq_true (show (0 : Int) = 0 from rfl)]
          replace HG := Lib.hid (HG.out.below hb)
          replace M0 := Lib.hid (M0.out.below hb)
          replace BB := Lib.hid (BB.out.trans (hb.mono BB.out.size))
          have X3 := Lib.hid ((X1.out (by first | rfl | trivial)).below hb)
          clear hb y0 y1 y2 y3 x0 x1 x2 x3 x4 x5 x6 x7 v0 v1 v2 v3 X1
          have v0 := M0.out.cell 0
          have v1 := M0.out.cell 1
          have v2 := M0.out.cell 2
          have v3 := M0.out.cell 3
          simp at v0 v1 v2 v3
          go_wp2_with fail
          refine (RW.out _ BB.out).mono ?_
          rintro e w6 ⟨u2, rfl, hr, hb⟩
          replace HG := Lib.hid (HG.out.below hb)
          replace BB := Lib.hid (BB.out.trans (hb.mono BB.out.size))
          replace X3 := Lib.hid (X3.out.below hb)
          have SA := Lib.hid (fun W h h' => same_any _ _ _ _ W (X3.out.below h) (hr.sk.below h') (by rw [wordsD_len]; simp only; omega))
          obtain ⟨u2a, u2c, rfl, _⟩ := hr.form
          rw [decide_eq_true (show wordsD (a, b, c, L) = wordsD (a, b, c, L) from rfl)] at SA
          clear hb hr v0 v1 v2 v3
          go_wp2_with fail
          refine (SA.out _ (Below.refl _ _) (Below.refl _ _)).mono ?_
          rintro e w7 ⟨rfl, hb⟩
          replace HG := Lib.hid (HG.out.below hb)
          replace BB := Lib.hid (BB.out.trans (hb.mono BB.out.size))
          clear hb SA
          go_wp2_with fail
          refine (awake_any _ HG.out).mono ?_
          rintro e w9 ⟨rfl, hb⟩
          replace BB := Lib.hid (BB.out.trans (hb.mono BB.out.size))
          clear hb
          go_wp2_with fail
          go_ret
          exact ⟨rfl, BB.out⟩
end Go.Proofs.YtfegeahieajmkaaDoor
