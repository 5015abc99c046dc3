/- The walk through DescApart. -/
import Derived.Test.YtfegeahieajmkaaDoorDsLaid
import Derived.Test.YtfegeahieajmkaaDoorDsWordsW
import Derived.Test.YtfegeahieajmkaaDoorDsSmall
import Derived.Test.YtfegeahieajmkaaDoorDsAwake
import Derived.Test.YtfegeahieajmkaaDoorDsField
import Derived.Test.YtfegeahieajmkaaDoorDsPlan
import Derived.Test.YtfegeahieajmkaaDoorDsRead
import Derived.Deep.DeepCutAuto
namespace Go.Proofs.YtfegeahieajmkaaDoor
open Go.ChangeShapes Go.WideShapes Go.ChangeAt Go.RowKit Go.Maps
open Lay (startL checkI placeI mayI sizeI Ok starts checkI_ok)
theorem laid_at {T C B : Nat} (h : Ok T C B) {M : List Wd} {a b c : Int} {L : List En} (hd : chkD T C B (a, b, c, L) = 0) (hM : M.length = startL T C B 7) : ∃ p m : Nat, placeI T C B a = ((p : Int), (m : Int)) ∧ L.length ≤ m ∧ 0 < m ∧ p + 2 + 3 * m ≤ startL T C B 7 ∧ ∀ i, i < startL T C B 7 → (laidM T C B M (a, b, c, L))[i]! = if p ≤ i ∧ i < p + (2 + 3 * L.length) then (wordsD (a, b, c, L))[i - p]! else M[i]! := by
  obtain ⟨h1, _, _, _, _, _, _, _, h9⟩ := (chkD_zero h a b c L).1 hd
  rcases place_room h a with hp | ⟨p, m, hp, hm, hr, _⟩
  · rw [hp] at h1; exact absurd rfl h1
  rw [hp] at h9
  refine ⟨p, m, hp, by simp only at h9; omega, by omega, hr, fun i hi => ?_⟩
  unfold laidM
  rw [if_pos hd]
  simp only
  rw [layN_at _ _ _ _ _ (by omega), hp]
  rfl
theorem field_zero {T C B : Nat} (h : Ok T C B) {who : Int} {p m : Nat} (hp : placeI T C B who = ((p : Int), (m : Int))) (hm : 0 < m) : fieldI T C B who 0 0 = ((p : Int) + 2, 0) := by
  unfold fieldI
  rw [checkI_ok h, if_neg (by simp), hp, if_neg (by simp only; omega)]
  rfl
theorem apart_back {T C B : Nat} (h : Ok T C B) {a b c a' b' c' : Int} {L L' : List En} {M : List Wd} (hM : M.length = startL T C B 7) (hne : a ≠ a') (hd : chkD T C B (a, b, c, L) = 0) (hd' : chkD T C B (a', b', c', L') = 0) : (rdE T C B (laidM T C B (laidM T C B M (a, b, c, L)) (a', b', c', L')) a = 0 ∧ rdD T C B (laidM T C B (laidM T C B M (a, b, c, L)) (a', b', c', L')) a = (a, b, c, L)) ∧ (rdE T C B (laidM T C B (laidM T C B M (a, b, c, L)) (a', b', c', L')) a' = 0 ∧ rdD T C B (laidM T C B (laidM T C B M (a, b, c, L)) (a', b', c', L')) a' = (a', b', c', L')) ∧ ∃ x y : Int, fieldI T C B a 0 0 = (x, 0) ∧ fieldI T C B a' 0 0 = (y, 0) ∧ x ≠ y := by
  have hM1 : (laidM T C B M (a, b, c, L)).length = startL T C B 7 := by rw [laidM_len, hM]
  obtain ⟨p, m, hp, hl, hm, hr, ht⟩ := laid_at h hd hM
  obtain ⟨p', m', hp', hl', hm', hr', ht'⟩ := laid_at h hd' hM1
  have hA := place_apart h hne hp hp'
  refine ⟨read_back h hd (by rw [laidM_len]; omega) (fun i hi => ?_), read_back h hd' (by rw [laidM_len]; omega) (fun i hi => ?_), _, _, field_zero h hp hm, field_zero h hp' hm', by omega⟩
  · rw [hp]
    simp only [Int.toNat_natCast]
    rw [ht' _ (by omega), if_neg (by omega), ht _ (by omega), if_pos (by omega)]
    congr 1; omega
  · rw [hp']
    simp only [Int.toNat_natCast]
    rw [ht' _ (by omega), if_pos (by omega)]
    congr 1; omega
theorem ReadOut.back {T C B : Nat} {M : List Wd} {who b c : Int} {L : List En} {w w' : World} {e : Ending} (h : ReadOut T C B M who w e w') (hE : rdE T C B M who = 0) (hD : rdD T C B M who = (who, b, c, L)) : ∃ a1 cp, e = .returned (.tuple #[.agg #[.int .i64 who, .int .i64 b, .int .i64 c, .slice a1 L.length cp], .int .i64 0]) ∧ ES w' (.slice a1 L.length cp) L ∧ Below w.heap.size w w' := by
  obtain ⟨⟨u, rfl, hu⟩, hb⟩ := h
  rw [hE, hD] at *
  obtain ⟨a1, cp, rfl, _⟩ := hu.form
  exact ⟨a1, cp, rfl, hu, hb⟩
set_option maxRecDepth 100000 in
set_option maxHeartbeats 12800000 in
theorem apart_walk (qa qb qc : Nat) (a b c : Int) (v : Value) (L : List En) (a' b' c' : Int) (v' : Value) (L' : List En) (w : World) (hg : Lay.Gl w) (h1 : qa < 256) (h2 : qb < 256) (h3 : qc < 256) (ha : -9223372036854775808 ≤ a ∧ a < 9223372036854775808) (_ : -9223372036854775808 ≤ b ∧ b < 9223372036854775808) (hc : -9223372036854775808 ≤ c ∧ c < 9223372036854775808) (hv : ES w v L) (hL : ∀ e ∈ L, OkE e) (_ : L.length ≤ maxLen) (ha' : -9223372036854775808 ≤ a' ∧ a' < 9223372036854775808) (_ : -9223372036854775808 ≤ b' ∧ b' < 9223372036854775808) (hc' : -9223372036854775808 ≤ c' ∧ c' < 9223372036854775808) (hv' : ES w v' L') (hL' : ∀ e ∈ L', OkE e) (_ : L'.length ≤ maxLen) : Calls Tryd.prog 9 #[.agg #[.int .u8 qa, .int .u8 qb, .int .u8 qc], .agg #[.int .i64 a, .int .i64 b, .int .i64 c, v], .agg #[.int .i64 a', .int .i64 b', .int .i64 c', v']] w (Good w) := by
  have HG := Lib.hid hg
  have HV := Lib.hid hv
  have HV' := Lib.hid hv'
  have HL := Lib.hid hL
  have HL' := Lib.hid hL'
  have HC := Lib.hid hc
  have HC' := Lib.hid hc'
  have GR := Lib.hid (fun W h => great_any v L W (hv.below h))
  have GR' := Lib.hid (fun W h => great_any v' L' W (hv'.below h))
  have OK := Lib.hid (plan_ok (a := qa) (b := qb) (c := qc))
  have PA := Lib.hid (fun W h => plan_any qa qb qc W h h1 h2 h3)
  obtain ⟨T, hT⟩ : ∃ x, 1 + qa % 4 = x := ⟨_, rfl⟩
  obtain ⟨C, hC⟩ : ∃ x, 8 + qb % 40 = x := ⟨_, rfl⟩
  obtain ⟨B, hB⟩ : ∃ x, qc % 12 = x := ⟨_, rfl⟩
  rw [hT, hC, hB] at OK PA
  clear hT hC hB
  obtain ⟨a1, cp, rfl, hcap⟩ := hv.form
  obtain ⟨a1', cp', rfl, hcap'⟩ := hv'.form
  obtain ⟨n, hn⟩ : ∃ n, L.length = n := ⟨_, rfl⟩
  obtain ⟨n', hn'⟩ : ∃ n, L'.length = n := ⟨_, rfl⟩
  rw [hn] at HV hcap GR ⊢
  rw [hn'] at HV' hcap' GR' ⊢
  have HN := Lib.hid hn
  have HN' := Lib.hid hn'
  clear hv hv' hg hn hn' hL hL' hc hc'
  go_enter Tryd.func9, Tryd.ntmps9
  go_upto_region 1 with fail
  have B1 := Lib.hid (below1 w (.cells #[.int .u8 qa, .int .u8 qb, .int .u8 qc] 22))
  have B2 := Lib.hid (below1 (w.alloc (.cells #[.int .u8 qa, .int .u8 qb, .int .u8 qc] 22)) (.cells #[.int .i64 a, .int .i64 b, .int .i64 c, .slice a1 n cp] 25))
  have B3 := Lib.hid (below1 ((w.alloc (.cells #[.int .u8 qa, .int .u8 qb, .int .u8 qc] 22)).alloc (.cells #[.int .i64 a, .int .i64 b, .int .i64 c, .slice a1 n cp] 25)) (.cells #[.int .i64 a', .int .i64 b', .int .i64 c', .slice a1' n' cp'] 25))
  have BB := Lib.hid ((B1.out.trans (B2.out.mono B1.out.size)).trans (B3.out.mono (Nat.le_trans B1.out.size B2.out.size)))
  have QQ := Lib.hid (((Box.new w #[.int .u8 qa, .int .u8 qb, .int .u8 qc] 22 rfl).below B2.out).below B3.out)
  have D1 := Lib.hid ((Box.new (w.alloc (.cells #[.int .u8 qa, .int .u8 qb, .int .u8 qc] 22)) #[.int .i64 a, .int .i64 b, .int .i64 c, .slice a1 n cp] 25 (n := w.heap.size + 1) (by simp)).below B3.out)
  have D2 := Lib.hid (Box.new ((w.alloc (.cells #[.int .u8 qa, .int .u8 qb, .int .u8 qc] 22)).alloc (.cells #[.int .i64 a, .int .i64 b, .int .i64 c, .slice a1 n cp] 25)) #[.int .i64 a', .int .i64 b', .int .i64 c', .slice a1' n' cp'] 25 (n := w.heap.size + 2) (by simp))
  replace HG := Lib.hid (HG.out.below BB.out)
  obtain ⟨W, hW⟩ : ∃ W, (((w.alloc (.cells #[.int .u8 qa, .int .u8 qb, .int .u8 qc] 22)).alloc (.cells #[.int .i64 a, .int .i64 b, .int .i64 c, .slice a1 n cp] 25)).alloc (.cells #[.int .i64 a', .int .i64 b', .int .i64 c', .slice a1' n' cp'] 25)) = W := ⟨_, rfl⟩
  obtain ⟨q, hq⟩ : ∃ q, w.heap.size = q := ⟨_, rfl⟩
  rw [hW] at BB QQ D1 D2 HG
  rw [hq] at QQ D1 D2
  rw [hW, hq]
  clear hW hq B1 B2 B3
  have y0 := D1.out.cell 0
  have y1 := D1.out.cell 1
  have y2 := D1.out.cell 2
  have y3 := D1.out.cell 3
  simp at y0 y1 y2 y3
  go_wp2_with fail
  refine (GR.out _ BB.out).mono ?_
  rintro e w1 ⟨rfl, hw⟩
  obtain rfl := hw
  clear GR
  by_cases h40 : 40 < n
  · rw [decide_eq_true h40]
    go_wp2_with fail
    refine (awake_any _ HG.out).mono ?_
    rintro e w9 ⟨rfl, hb⟩
    replace BB := Lib.hid (BB.out.trans (hb.mono BB.out.size))
    clear hb
    go_wp2_with fail
    go_ret
    exact ⟨rfl, BB.out⟩
  rw [decide_eq_false h40]
  have z0 := D2.out.cell 0
  have z1 := D2.out.cell 1
  have z2 := D2.out.cell 2
  have z3 := D2.out.cell 3
  simp at z0 z1 z2 z3
  go_wp2_with fail
  refine (GR'.out _ BB.out).mono ?_
  rintro e w1 ⟨rfl, hw⟩
  obtain rfl := hw
  clear GR'
  by_cases h40' : 40 < n'
  · rw [decide_eq_true h40']
    go_wp2_with fail
    refine (awake_any _ HG.out).mono ?_
    rintro e w9 ⟨rfl, hb⟩
    replace BB := Lib.hid (BB.out.trans (hb.mono BB.out.size))
    clear hb
    go_wp2_with fail
    go_ret
    exact ⟨rfl, BB.out⟩
  rw [decide_eq_false h40']
  have hl : L.length ≤ 1000 := by rw [HN.out]; omega
  have hl' : L'.length ≤ 1000 := by rw [HN'.out]; omega
  have h4 : n ≤ 40 := by omega
  have h4' : n' ≤ 40 := by omega
  clear h40 h40' y0 y1 y2 y3 z0 z1 z2 z3
  have x0 := QQ.out.cell 0
  have x1 := QQ.out.cell 1
  have x2 := QQ.out.cell 2
  simp at x0 x1 x2
  go_wp2_with fail
  refine (PA.out _ HG.out).mono ?_
  rintro e w2 ⟨⟨u, rfl, hu⟩, hb⟩
  replace D1 := Lib.hid (D1.out.below hb)
  replace D2 := Lib.hid (D2.out.below hb)
  replace HG := Lib.hid (HG.out.below hb)
  replace BB := Lib.hid (BB.out.trans (hb.mono BB.out.size))
  clear hb x0 x1 x2 QQ PA
  have N7 := OK.out.2
  obtain ⟨ua, uc, rfl, _⟩ := hu.form
  clear hu
  rw [mayBs_len]
  unfold PlV
  have FL := Lib.hid (firstL_len T C B)
  have FI := Lib.hid (fun W h => Lay.first_ok T C B W h OK.out)
  have FO := Lib.hid (firstL_ok T C B)
  have PR := Lib.hid (place_room OK.out a)
  have PR' := Lib.hid (place_room OK.out a')
  have FD := Lib.hid (fun W h => field_any T C B a 0 0 W h ha.2 (by
    rcases PR.out with h | ⟨x, m, h, hm, hr, _⟩
    · rw [h]; simp
    · rw [h]; simp only; rcases hm with rfl | rfl <;> omega))
  have FD' := Lib.hid (fun W h => field_any T C B a' 0 0 W h ha'.2 (by
    rcases PR'.out with h | ⟨x, m, h, hm, hr, _⟩
    · rw [h]; simp
    · rw [h]; simp only; rcases hm with rfl | rfl <;> omega))
  clear PR PR'
  obtain ⟨pn, hpn⟩ : ∃ n, startL T C B 7 = n := ⟨_, rfl⟩
  obtain ⟨s4, hs4⟩ : ∃ n, startL T C B 4 = n := ⟨_, rfl⟩
  obtain ⟨rm, hrm⟩ : ∃ n, roomsI T C B = n := ⟨_, rfl⟩
  have HPN := Lib.hid hpn
  rw [hpn] at FI FL N7 ⊢
  rw [hs4, hrm]
  clear hpn hs4 hrm
  go_upto_region 4 with fail
  have L7 := Lib.hid (Box.new w2 #[.int .i64 T, .int .i64 C, .int .i64 B] 29 rfl)
  have B1 := Lib.hid (below1 w2 (.cells #[.int .i64 T, .int .i64 C, .int .i64 B] 29))
  have B2 := Lib.hid (below1 (w2.alloc (.cells #[.int .i64 T, .int .i64 C, .int .i64 B] 29)) (.cells #[.int .i64 T, .int .i64 B, .int .i64 s4, .int .i64 rm, .int .i64 104, .int .i64 32, .slice ua pn uc, .int .i64 pn] 32))
  replace L7 := Lib.hid (L7.out.below B2.out)
  replace D1 := Lib.hid (D1.out.below B1.out)
  replace D2 := Lib.hid (D2.out.below B1.out)
  replace HG := Lib.hid (HG.out.below B1.out)
  replace BB := Lib.hid (BB.out.trans (B1.out.mono BB.out.size))
  replace D1 := Lib.hid (D1.out.below B2.out)
  replace D2 := Lib.hid (D2.out.below B2.out)
  replace HG := Lib.hid (HG.out.below B2.out)
  replace BB := Lib.hid (BB.out.trans (B2.out.mono BB.out.size))
  clear B1 B2
  generalize (w2.alloc (.cells #[.int .i64 T, .int .i64 C, .int .i64 B] 29)).alloc (.cells #[.int .i64 T, .int .i64 B, .int .i64 s4, .int .i64 rm, .int .i64 104, .int .i64 32, .slice ua pn uc, .int .i64 pn] 32) = W3 at *
  generalize w2.heap.size = p7 at *
  have x0 := L7.out.cell 0
  have x1 := L7.out.cell 1
  have x2 := L7.out.cell 2
  simp at x0 x1 x2
  go_wp2_with fail
  have G0 := HG
  have B0 := BB
  have D10 := D1
  have D20 := D2
  have L70 := L7
  have LA := Lib.hid (fun g M W h1 h2 h3 => laid_any T C B a b c _ L g M W3 W G0.out OK.out (HV.out.below B0.out) hl ha h1 (by rw [HPN.out]; exact h2) h3)
  have LA' := Lib.hid (fun g M W h1 h2 h3 => laid_any T C B a' b' c' _ L' g M W3 W G0.out OK.out (HV'.out.below B0.out) hl' ha' h1 (by rw [HPN.out]; exact h2) h3)
  refine (FI.out _ HG.out).mono ?_
  rintro e w4 ⟨g, rfl, hgg, hr, hb⟩
  have R := Lib.hid (row_of_fi hr hgg (by omega))
  rw [show ((List.range pn).map fun i => (Lay.fv T C B T B i, (0 : Int), (0 : Int))) = firstL T C B by unfold firstL; rw [HPN.out]] at R
  have BW := Lib.hid hb
  replace D1 := Lib.hid (D1.out.below hb)
  replace D2 := Lib.hid (D2.out.below hb)
  replace HG := Lib.hid (HG.out.below hb)
  replace L7 := Lib.hid (L7.out.below hb)
  replace BB := Lib.hid (BB.out.trans (hb.mono BB.out.size))
  clear hb hr FI x0 x1 x2
  obtain ⟨M, hM⟩ : ∃ M, firstL T C B = M := ⟨_, rfl⟩
  rw [hM] at R FL FO
  clear hM
  have y0 := D1.out.cell 0
  have y1 := D1.out.cell 1
  have y2 := D1.out.cell 2
  have y3 := D1.out.cell 3
  simp at y0 y1 y2 y3
  have z0 := D2.out.cell 0
  have z1 := D2.out.cell 1
  have z2 := D2.out.cell 2
  have z3 := D2.out.cell 3
  simp at z0 z1 z2 z3
  by_cases hne : a = a'
  · subst hne
    go_wp2_with fail
    refine (awake_any _ HG.out).mono ?_
    rintro e w9 ⟨rfl, hb⟩
    replace BB := Lib.hid (BB.out.trans (hb.mono BB.out.size))
    clear hb
    go_wp2_with fail
    go_ret
    exact ⟨rfl, BB.out⟩
  have hne1 : (a == a') = false := by rw [beq_eq_false_iff_ne]; exact hne
  have x0 := L7.out.cell 0
  have x1 := L7.out.cell 1
  have x2 := L7.out.cell 2
  simp at x0 x1 x2
  go_wp2_with fail
  have LX := LA.out g M w4 (by rw [FL.out]; exact R.out) FL.out BW.out
  rw [FL.out] at LX
  refine LX.mono ?_
  rintro e w5 ⟨rfl, hr, hb⟩
  clear LX LA x0 x1 x2 y0 y1 y2 y3 z0 z1 z2 z3 D1 D2 L7 HG BB BW
  have BW := Lib.hid hb
  have D1 := Lib.hid (D10.out.below hb)
  have D2 := Lib.hid (D20.out.below hb)
  have L7 := Lib.hid (L70.out.below hb)
  have HG := Lib.hid (G0.out.below hb)
  have BB := Lib.hid (B0.out.trans (hb.mono B0.out.size))
  clear hb
  by_cases hd : chkD T C B (a, b, c, L) = 0
  case neg =>
    rw [decide_eq_false hd]
    go_wp2_with fail
    refine (awake_any _ HG.out).mono ?_
    rintro e w9 ⟨rfl, hb⟩
    replace BB := Lib.hid (BB.out.trans (hb.mono BB.out.size))
    clear hb
    go_wp2_with fail
    go_ret
    exact ⟨rfl, BB.out⟩
  rw [decide_eq_true hd]
  replace R := Lib.hid hr
  clear hr
  have FM := Lib.hid (show (laidM T C B M (a, b, c, L)).length = pn by rw [laidM_len, FL.out])
  have FQ := Lib.hid (laidM_ok (T := T) (C := C) (B := B) (a := a) (b := b) FO.out HC.out HL.out hl)
  have AB := Lib.hid (fun h => apart_back OK.out (M := M) (by rw [FL.out, HPN.out]) hne hd (a' := a') (b' := b') (c' := c') (L' := L') h)
  obtain ⟨M1, hM1⟩ : ∃ M1, laidM T C B M (a, b, c, L) = M1 := ⟨_, rfl⟩
  rw [hM1] at R FM FQ AB
  clear hM1 FL FO
  have z0 := D2.out.cell 0
  have z1 := D2.out.cell 1
  have z2 := D2.out.cell 2
  have z3 := D2.out.cell 3
  simp at z0 z1 z2 z3
  have x0 := L7.out.cell 0
  have x1 := L7.out.cell 1
  have x2 := L7.out.cell 2
  simp at x0 x1 x2
  go_wp2_with fail
  have LX := LA'.out g M1 w5 (by rw [FM.out]; exact R.out) FM.out BW.out
  rw [FM.out] at LX
  refine LX.mono ?_
  rintro e w6 ⟨rfl, hr, hb⟩
  clear LX LA' x0 x1 x2 z0 z1 z2 z3 D1 D2 L7 HG BB BW
  have BW := Lib.hid hb
  have D1 := Lib.hid (D10.out.below hb)
  have D2 := Lib.hid (D20.out.below hb)
  have L7 := Lib.hid (L70.out.below hb)
  have HG := Lib.hid (G0.out.below hb)
  have BB := Lib.hid (B0.out.trans (hb.mono B0.out.size))
  clear hb
  by_cases hd' : chkD T C B (a', b', c', L') = 0
  case neg =>
    rw [decide_eq_false hd']
    go_wp2_with fail
    refine (awake_any _ HG.out).mono ?_
    rintro e w9 ⟨rfl, hb⟩
    replace BB := Lib.hid (BB.out.trans (hb.mono BB.out.size))
    clear hb
    go_wp2_with fail
    go_ret
    exact ⟨rfl, BB.out⟩
  rw [decide_eq_true hd']
  replace R := Lib.hid hr
  clear hr
  have FN := Lib.hid (show (laidM T C B M1 (a', b', c', L')).length = pn by rw [laidM_len, FM.out])
  have FR := Lib.hid (laidM_ok (T := T) (C := C) (B := B) (a := a') (b := b') FQ.out HC'.out HL'.out hl')
  obtain ⟨⟨rA, sA⟩, ⟨rB, sB⟩, x, y, fA, fB, hxy⟩ := AB.out hd'
  clear AB
  obtain ⟨M2, hM2⟩ : ∃ M2, laidM T C B M1 (a', b', c', L') = M2 := ⟨_, rfl⟩
  rw [hM2] at R FN FR rA sA rB sB
  clear hM2 FM FQ hd hd'
  rw [fA] at FD
  rw [fB] at FD'
  clear fA fB
  have RA := Lib.hid (fun W h h' => (read_any T C B _ M2 a W h OK.out (R.out.below h').sk (by rw [FN.out]; omega) FR.out ha.2).mono (fun e w' h => h.back rA sA))
  have RB := Lib.hid (fun W h h' => (read_any T C B _ M2 a' W h OK.out (R.out.below h').sk (by rw [FN.out]; omega) FR.out ha'.2).mono (fun e w' h => h.back rB sB))
  rw [HN.out] at RA
  rw [HN'.out] at RB
  have B6 := Lib.hid (Below.refl w6.heap.size w6)
  clear rA sA rB sB FN FR R BW
  have SA := Lib.hid (fun v W hv h => rsame_any v _ L L W hv (HV.out.below h) (by omega))
  have SB := Lib.hid (fun v W hv h => rsame_any v _ L' L' W hv (HV'.out.below h) (by omega))
  rw [decide_eq_true (show L = L from rfl)] at SA
  rw [decide_eq_true (show L' = L' from rfl)] at SB
  have y0 := D1.out.cell 0
  have y1 := D1.out.cell 1
  have y2 := D1.out.cell 2
  have y3 := D1.out.cell 3
  simp at y0 y1 y2 y3
  have x0 := L7.out.cell 0
  have x1 := L7.out.cell 1
  have x2 := L7.out.cell 2
  simp at x0 x1 x2
  go_wp2_with fail
  refine (RA.out _ HG.out B6.out).mono ?_
  rintro e w7 ⟨xa, xc, rfl, hx, hb⟩
  have HX := Lib.hid hx
  replace D1 := Lib.hid (D1.out.below hb)
  replace D2 := Lib.hid (D2.out.below hb)
  replace HG := Lib.hid (HG.out.below hb)
  replace L7 := Lib.hid (L7.out.below hb)
  replace BB := Lib.hid (BB.out.trans (hb.mono BB.out.size))
  replace B6 := Lib.hid (B6.out.trans (hb.mono B6.out.size))
  clear hb hx x0 x1 x2 y0 y1 y2 y3 RA
  go_upto_region 10 with fail
  have X11 := Lib.hid (Box.new w7 #[.int .i64 a, .int .i64 b, .int .i64 c, .slice xa n xc] 25 rfl)
  have B1 := Lib.hid (below1 w7 (.cells #[.int .i64 a, .int .i64 b, .int .i64 c, .slice xa n xc] 25))
  replace D1 := Lib.hid (D1.out.below B1.out)
  replace D2 := Lib.hid (D2.out.below B1.out)
  replace HG := Lib.hid (HG.out.below B1.out)
  replace L7 := Lib.hid (L7.out.below B1.out)
  replace HX := Lib.hid (HX.out.below B1.out)
  replace BB := Lib.hid (BB.out.trans (B1.out.mono BB.out.size))
  replace B6 := Lib.hid (B6.out.trans (B1.out.mono B6.out.size))
  clear B1
  generalize w7.alloc (.cells #[.int .i64 a, .int .i64 b, .int .i64 c, .slice xa n xc] 25) = W7 at *
  generalize w7.heap.size = p11 at *
  have z0 := D2.out.cell 0
  have z1 := D2.out.cell 1
  have z2 := D2.out.cell 2
  have z3 := D2.out.cell 3
  simp at z0 z1 z2 z3
  have x0 := L7.out.cell 0
  have x1 := L7.out.cell 1
  have x2 := L7.out.cell 2
  simp at x0 x1 x2
  go_wp2_with fail
  refine (RB.out _ HG.out B6.out).mono ?_
  rintro e w8 ⟨ya, yc, rfl, hx, hb⟩
  have HY := Lib.hid hx
  replace D1 := Lib.hid (D1.out.below hb)
  replace D2 := Lib.hid (D2.out.below hb)
  replace HG := Lib.hid (HG.out.below hb)
  replace L7 := Lib.hid (L7.out.below hb)
  replace HX := Lib.hid (HX.out.below hb)
  replace X11 := Lib.hid (X11.out.below hb)
  replace BB := Lib.hid (BB.out.trans (hb.mono BB.out.size))
  replace B6 := Lib.hid (B6.out.trans (hb.mono B6.out.size))
  clear hb hx x0 x1 x2 z0 z1 z2 z3 RB
  go_upto_region 11 with fail
  have X13 := Lib.hid (Box.new w8 #[.int .i64 a', .int .i64 b', .int .i64 c', .slice ya n' yc] 25 rfl)
  have B1 := Lib.hid (below1 w8 (.cells #[.int .i64 a', .int .i64 b', .int .i64 c', .slice ya n' yc] 25))
  replace D1 := Lib.hid (D1.out.below B1.out)
  replace D2 := Lib.hid (D2.out.below B1.out)
  replace HG := Lib.hid (HG.out.below B1.out)
  replace L7 := Lib.hid (L7.out.below B1.out)
  replace HX := Lib.hid (HX.out.below B1.out)
  replace X11 := Lib.hid (X11.out.below B1.out)
  replace HY := Lib.hid (HY.out.below B1.out)
  replace BB := Lib.hid (BB.out.trans (B1.out.mono BB.out.size))
  replace B6 := Lib.hid (B6.out.trans (B1.out.mono B6.out.size))
  clear B1
  generalize w8.alloc (.cells #[.int .i64 a', .int .i64 b', .int .i64 c', .slice ya n' yc] 25) = W8 at *
  generalize w8.heap.size = p13 at *
  have y0 := D1.out.cell 0
  have y1 := D1.out.cell 1
  have y2 := D1.out.cell 2
  have y3 := D1.out.cell 3
  simp at y0 y1 y2 y3
  have x0 := L7.out.cell 0
  have x1 := L7.out.cell 1
  have x2 := L7.out.cell 2
  simp at x0 x1 x2
  go_wp2_with fail
  refine (FD.out _ HG.out).mono ?_
  rintro e w9 ⟨rfl, hb⟩
  replace D1 := Lib.hid (D1.out.below hb)
  replace D2 := Lib.hid (D2.out.below hb)
  replace HG := Lib.hid (HG.out.below hb)
  replace L7 := Lib.hid (L7.out.below hb)
  replace HX := Lib.hid (HX.out.below hb)
  replace X11 := Lib.hid (X11.out.below hb)
  replace HY := Lib.hid (HY.out.below hb)
  replace X13 := Lib.hid (X13.out.below hb)
  replace BB := Lib.hid (BB.out.trans (hb.mono BB.out.size))
  replace B6 := Lib.hid (B6.out.trans (hb.mono B6.out.size))
  clear hb FD x0 x1 x2 y0 y1 y2 y3
  have z0 := D2.out.cell 0
  have z1 := D2.out.cell 1
  have z2 := D2.out.cell 2
  have z3 := D2.out.cell 3
  simp at z0 z1 z2 z3
  have x0 := L7.out.cell 0
  have x1 := L7.out.cell 1
  have x2 := L7.out.cell 2
  simp at x0 x1 x2
  go_wp2_with fail
  refine (FD'.out _ HG.out).mono ?_
  rintro e w10 ⟨rfl, hb⟩
  replace D1 := Lib.hid (D1.out.below hb)
  replace D2 := Lib.hid (D2.out.below hb)
  replace HG := Lib.hid (HG.out.below hb)
  replace HX := Lib.hid (HX.out.below hb)
  replace X11 := Lib.hid (X11.out.below hb)
  replace HY := Lib.hid (HY.out.below hb)
  replace X13 := Lib.hid (X13.out.below hb)
  replace BB := Lib.hid (BB.out.trans (hb.mono BB.out.size))
  replace B6 := Lib.hid (B6.out.trans (hb.mono B6.out.size))
  clear hb FD' x0 x1 x2 z0 z1 z2 z3 L7
  have qxy : (x != y) = true := by rw [bne_iff_ne]; exact hxy
  have y0 := D1.out.cell 0
  have y1 := D1.out.cell 1
  have y2 := D1.out.cell 2
  have y3 := D1.out.cell 3
  simp at y0 y1 y2 y3
  have z0 := D2.out.cell 0
  have z1 := D2.out.cell 1
  have z2 := D2.out.cell 2
  have z3 := D2.out.cell 3
  simp at z0 z1 z2 z3
  have k0 := X11.out.cell 0
  have k1 := X11.out.cell 1
  have k2 := X11.out.cell 2
  have k3 := X11.out.cell 3
  simp at k0 k1 k2 k3
  have l0 := X13.out.cell 0
  have l1 := X13.out.cell 1
  have l2 := X13.out.cell 2
  have l3 := X13.out.cell 3
  simp at l0 l1 l2 l3
  go_wp2_with fail
  refine (SA.out _ _ HX.out BB.out).mono ?_
  rintro e w11 ⟨rfl, hb⟩
  replace D2 := Lib.hid (D2.out.below hb)
  replace HG := Lib.hid (HG.out.below hb)
  replace HY := Lib.hid (HY.out.below hb)
  replace X13 := Lib.hid (X13.out.below hb)
  replace BB := Lib.hid (BB.out.trans (hb.mono BB.out.size))
  replace B6 := Lib.hid (B6.out.trans (hb.mono B6.out.size))
  clear hb SA y0 y1 y2 y3 z0 z1 z2 z3 k0 k1 k2 k3 l0 l1 l2 l3 D1 X11 HX
  have z0 := D2.out.cell 0
  have z1 := D2.out.cell 1
  have z2 := D2.out.cell 2
  have z3 := D2.out.cell 3
  simp at z0 z1 z2 z3
  have l0 := X13.out.cell 0
  have l1 := X13.out.cell 1
  have l2 := X13.out.cell 2
  have l3 := X13.out.cell 3
  simp at l0 l1 l2 l3
  go_wp2_with fail
  refine (SB.out _ _ HY.out BB.out).mono ?_
  rintro e w12 ⟨rfl, hb⟩
  replace HG := Lib.hid (HG.out.below hb)
  replace BB := Lib.hid (BB.out.trans (hb.mono BB.out.size))
  replace B6 := Lib.hid (B6.out.trans (hb.mono B6.out.size))
  clear hb SB z0 z1 z2 z3 l0 l1 l2 l3 D2 X13 HY
  go_wp2_with fail
  refine (awake_any _ HG.out).mono ?_
  rintro e w9 ⟨rfl, hb⟩
  replace BB := Lib.hid (BB.out.trans (hb.mono BB.out.size))
  clear hb
  go_wp2_with fail
  go_ret
  exact ⟨rfl, BB.out⟩
end Go.Proofs.YtfegeahieajmkaaDoor
