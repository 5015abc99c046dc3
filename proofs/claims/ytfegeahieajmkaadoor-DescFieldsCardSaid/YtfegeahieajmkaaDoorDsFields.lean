/- The walk through DescFields. -/
import Derived.Test.YtfegeahieajmkaaDoorDsRPlace
import Derived.Test.YtfegeahieajmkaaDoorDsField
import Derived.Test.YtfegeahieajmkaaDoorDsAwake
import Derived.Deep.DeepCutAuto
namespace Go.Proofs.YtfegeahieajmkaaDoor
open Go.ChangeShapes Go.WideShapes Go.ChangeAt Go.RowKit Go.Maps
open Lay (startL checkI placeI mayI sizeI Ok starts checkI_ok)
set_option maxRecDepth 100000 in
set_option maxHeartbeats 12800000 in
theorem fields_walk (a b c : Nat) (who n0 n1 : Int) (w : World) (hg : Lay.Gl w) (ha : a < 256) (hb : b < 256) (hc : c < 256) (hw0 : -9223372036854775808 ≤ who) (hw1 : who < 9223372036854775808) (h0 : -9223372036854775808 ≤ n0 ∧ n0 < 9223372036854775808) (h1 : -9223372036854775808 ≤ n1 ∧ n1 < 9223372036854775808) : Calls Tryd.prog 8 #[.agg #[.int .u8 a, .int .u8 b, .int .u8 c], .int .i64 who, .agg #[.int .i64 n0, .int .i64 n1]] w (Good w) := by
  have HG := Lib.hid hg
  have PA := Lib.hid (fun W h => plan_any a b c W h ha hb hc)
  have OK := Lib.hid (plan_ok (a := a) (b := b) (c := c))
  obtain ⟨T, hT⟩ : ∃ x, 1 + a % 4 = x := ⟨_, rfl⟩
  obtain ⟨C, hC⟩ : ∃ x, 8 + b % 40 = x := ⟨_, rfl⟩
  obtain ⟨B, hB⟩ : ∃ x, c % 12 = x := ⟨_, rfl⟩
  rw [hT, hC, hB] at PA OK
  clear hT hC hB hg
  have PR := Lib.hid (place_room OK.out who)
  have N7 := Lay.startL_le T C B OK.out.1 7 (by omega)
  have PB : Hid (-1 ≤ (placeI T C B who).1 ∧ (placeI T C B who).1 ≤ 40000 ∧ (placeI T C B who).2 ≤ 100) := Lib.hid (by
    rcases PR.out with h | ⟨x, m, h, hm, hr, _⟩
    · rw [h]; simp
    · rw [h]; simp only; rcases hm with rfl | rfl <;> omega)
  have FD := Lib.hid (fun W h => field_any T C B who n0 n1 W h hw1 PB.out)
  have FZ := Lib.hid (fun W h => field_any 0 0 0 1 0 0 W h (by omega) (by decide +kernel))
  rw [show fieldI 0 0 0 1 0 0 = (0, 1) by decide +kernel] at FZ
  have RP := Lib.hid (fun u W hu => rplace_any T C B u who W OK.out hu ⟨hw0, hw1⟩)
  have FV := Lib.hid (show fieldI T C B who n0 n1 = if n0 < 0 ∨ (placeI T C B who).2 ≤ n0 ∨ n1 < 0 ∨ 3 ≤ n1 then (0, 3) else ((placeI T C B who).1 + (2 + 3 * n0 + n1), 0) by unfold fieldI; rw [checkI_ok OK.out, if_neg (by simp)])
  have ST := Lib.hid (status_any 1 7)
  unfold wdV at ST
  rw [show IntKind.u32.wrap 7 = 7 by decide] at ST
  simp only at ST
  have qE := eqlW
  have gP := guardW
  have t1 : eqW (1, 7, 0) (1, 7, 0) = true := rfl
  obtain ⟨pa, hpa⟩ : ∃ x, (placeI T C B who).1 = x := ⟨_, rfl⟩
  obtain ⟨pm, hpm⟩ : ∃ x, (placeI T C B who).2 = x := ⟨_, rfl⟩
  have HPA := Lib.hid hpa
  have HPM := Lib.hid hpm
  rw [hpa, hpm] at RP FV
  clear hpa hpm PB
  obtain ⟨fx, hfx⟩ : ∃ x, fieldI T C B who n0 n1 = x := ⟨_, rfl⟩
  rw [hfx] at FD FV
  clear hfx
  unfold PlV at RP
  go_enter Tryd.func8, Tryd.ntmps8
  go_upto_region 1 with fail
  have B1 := Lib.hid (below1 w (.cells #[.int .u8 a, .int .u8 b, .int .u8 c] 22))
  have B2 := Lib.hid (below1 (w.alloc (.cells #[.int .u8 a, .int .u8 b, .int .u8 c] 22)) (.cells #[.int .i64 n0, .int .i64 n1] 80))
  have BB := Lib.hid (B1.out.trans (B2.out.mono B1.out.size))
  have QB := Lib.hid ((Box.new w #[.int .u8 a, .int .u8 b, .int .u8 c] 22 rfl).below B2.out)
  have NB := Lib.hid (Box.new (w.alloc (.cells #[.int .u8 a, .int .u8 b, .int .u8 c] 22)) #[.int .i64 n0, .int .i64 n1] 80 (n := w.heap.size + 1) (by simp))
  replace HG := Lib.hid (HG.out.below BB.out)
  obtain ⟨W, hW⟩ : ∃ W, ((w.alloc (.cells #[.int .u8 a, .int .u8 b, .int .u8 c] 22)).alloc (.cells #[.int .i64 n0, .int .i64 n1] 80)) = W := ⟨_, rfl⟩
  obtain ⟨q, hq⟩ : ∃ q, w.heap.size = q := ⟨_, rfl⟩
  rw [hW] at BB QB NB HG
  rw [hq] at QB NB
  rw [hW, hq]
  clear hW hq B1 B2
  have k0 := QB.out.cell 0
  have k1 := QB.out.cell 1
  have k2 := QB.out.cell 2
  simp at k0 k1 k2
  go_wp2_with fail
  refine (PA.out _ HG.out).mono ?_
  rintro e w1 ⟨⟨u, rfl, hu⟩, hb⟩
  replace NB := Lib.hid (NB.out.below hb)
  replace HG := Lib.hid (HG.out.below hb)
  replace BB := Lib.hid (BB.out.trans (hb.mono BB.out.size))
  clear hb k0 k1 k2 QB PA
  have SU := Lib.hid hu
  obtain ⟨ua, uc, rfl, _⟩ := hu.form
  clear hu
  rw [mayBs_len] at SU ⊢
  unfold PlV
  obtain ⟨n, hn⟩ : ∃ n, startL T C B 7 = n := ⟨_, rfl⟩
  obtain ⟨s4, hs4⟩ : ∃ n, startL T C B 4 = n := ⟨_, rfl⟩
  obtain ⟨rm, hrm⟩ : ∃ n, roomsI T C B = n := ⟨_, rfl⟩
  rw [hn] at N7
  rw [hn] at SU RP ⊢
  rw [hs4, hrm] at RP ⊢
  clear hs4 hrm
  go_upto_region 4 with fail
  have L7 := Lib.hid (Box.new w1 #[.int .i64 T, .int .i64 C, .int .i64 B] 29 rfl)
  have B1 := Lib.hid (below1 w1 (.cells #[.int .i64 T, .int .i64 C, .int .i64 B] 29))
  have B2 := Lib.hid (below1 (w1.alloc (.cells #[.int .i64 T, .int .i64 C, .int .i64 B] 29)) (.cells #[.int .i64 T, .int .i64 B, .int .i64 s4, .int .i64 rm, .int .i64 104, .int .i64 32, .slice ua n uc, .int .i64 n] 32))
  have P8 := Lib.hid (Box.new (w1.alloc (.cells #[.int .i64 T, .int .i64 C, .int .i64 B] 29)) #[.int .i64 T, .int .i64 B, .int .i64 s4, .int .i64 rm, .int .i64 104, .int .i64 32, .slice ua n uc, .int .i64 n] 32 (n := w1.heap.size + 1) (by simp))
  replace L7 := Lib.hid (L7.out.below B2.out)
  replace NB := Lib.hid (NB.out.below B1.out)
  replace HG := Lib.hid (HG.out.below B1.out)
  replace BB := Lib.hid (BB.out.trans (B1.out.mono BB.out.size))
  replace NB := Lib.hid (NB.out.below B2.out)
  replace HG := Lib.hid (HG.out.below B2.out)
  replace BB := Lib.hid (BB.out.trans (B2.out.mono BB.out.size))
  replace SU := Lib.hid ((SU.out.below B1.out).below B2.out)
  clear B1 B2
  generalize (w1.alloc (.cells #[.int .i64 T, .int .i64 C, .int .i64 B] 29)).alloc (.cells #[.int .i64 T, .int .i64 B, .int .i64 s4, .int .i64 rm, .int .i64 104, .int .i64 32, .slice ua n uc, .int .i64 n] 32) = W2 at *
  generalize w1.heap.size = p7 at *
  have k0 := P8.out.cell 0
  have k1 := P8.out.cell 1
  have k2 := P8.out.cell 2
  have k3 := P8.out.cell 3
  have k4 := P8.out.cell 4
  have k5 := P8.out.cell 5
  have k6 := P8.out.cell 6
  have k7 := P8.out.cell 7
  simp at k0 k1 k2 k3 k4 k5 k6 k7
  go_wp2_with fail
  refine (RP.out _ _ SU.out).mono ?_
  rintro e w2 ⟨rfl, hb⟩
  replace NB := Lib.hid (NB.out.below hb)
  replace HG := Lib.hid (HG.out.below hb)
  replace L7 := Lib.hid (L7.out.below hb)
  replace BB := Lib.hid (BB.out.trans (hb.mono BB.out.size))
  clear hb k0 k1 k2 k3 k4 k5 k6 k7 P8 SU RP
  have k0 := L7.out.cell 0
  have k1 := L7.out.cell 1
  have k2 := L7.out.cell 2
  simp at k0 k1 k2
  have z0 := NB.out.cell 0
  have z1 := NB.out.cell 1
  simp at z0 z1
  go_wp2_with fail
  refine (FD.out _ HG.out).mono ?_
  rintro e w3 ⟨rfl, hb⟩
  replace NB := Lib.hid (NB.out.below hb)
  replace HG := Lib.hid (HG.out.below hb)
  replace BB := Lib.hid (BB.out.trans (hb.mono BB.out.size))
  clear hb k0 k1 k2 z0 z1 L7 FD
  have z0 := NB.out.cell 0
  have z1 := NB.out.cell 1
  simp at z0 z1
  rcases PR.out with hp | ⟨x, m, hp, hm, hroom, -⟩
  · have e1 : pa = -1 := by rw [← HPA.out, hp]
    have e2 : pm = 0 := by rw [← HPM.out, hp]
    subst e1 e2
    clear hp PR
    have e := FV.out
    rw [if_pos (by omega)] at e
    subst e
    go_wp2_with fail
    refine (FZ.out _ HG.out).mono ?_
    rintro e w7 ⟨rfl, hb⟩
    replace HG := Lib.hid (HG.out.below hb)
    replace BB := Lib.hid (BB.out.trans (hb.mono BB.out.size))
    clear hb
    go_wp2_with fail
    refine (ST.out _).mono ?_
    rintro e w8 ⟨rfl, hb⟩
    replace HG := Lib.hid (HG.out.below hb)
    replace BB := Lib.hid (BB.out.trans (hb.mono BB.out.size))
    clear hb
    go_upto_region 11 with fail
    have S9 := Lib.hid (Box.new w8 #[.int .i64 1, .int .u32 7, .int .u32 0] 47 rfl)
    have B1 := Lib.hid (below1 w8 (.cells #[.int .i64 1, .int .u32 7, .int .u32 0] 47))
    replace HG := Lib.hid (HG.out.below B1.out)
    replace BB := Lib.hid (BB.out.trans (B1.out.mono BB.out.size))
    clear B1
    generalize w8.alloc (.cells #[.int .i64 1, .int .u32 7, .int .u32 0] 47) = W9 at *
    generalize w8.heap.size = q9 at *
    have k0 := S9.out.cell 0
    have k1 := S9.out.cell 1
    have k2 := S9.out.cell 2
    simp at k0 k1 k2
    go_wp2_with fail
    refine (awake_any _ HG.out).mono ?_
    rintro e w9 ⟨rfl, hb⟩
    replace BB := Lib.hid (BB.out.trans (hb.mono BB.out.size))
    clear hb k0 k1 k2
    go_wp2_with fail
    go_ret
    exact ⟨rfl, BB.out⟩
  have e1 : pa = (x : Int) := by rw [← HPA.out, hp]
  have e2 : pm = (m : Int) := by rw [← HPM.out, hp]
  subst e1 e2
  clear hp PR
  have hm32 : m ≤ 32 := by rcases hm with rfl | rfl <;> omega
  clear hm
  rw [hn] at hroom
  clear hn
  have hx0 : (0 : Int) ≤ (x : Int) := by omega
  have e := FV.out
  by_cases g1 : n0 < 0
  · rw [if_pos (by omega)] at e
    subst e
    go_wp2_with fail
    refine (FZ.out _ HG.out).mono ?_
    rintro e w7 ⟨rfl, hb⟩
    replace HG := Lib.hid (HG.out.below hb)
    replace BB := Lib.hid (BB.out.trans (hb.mono BB.out.size))
    clear hb
    go_wp2_with fail
    refine (ST.out _).mono ?_
    rintro e w8 ⟨rfl, hb⟩
    replace HG := Lib.hid (HG.out.below hb)
    replace BB := Lib.hid (BB.out.trans (hb.mono BB.out.size))
    clear hb
    go_upto_region 11 with fail
    have S9 := Lib.hid (Box.new w8 #[.int .i64 1, .int .u32 7, .int .u32 0] 47 rfl)
    have B1 := Lib.hid (below1 w8 (.cells #[.int .i64 1, .int .u32 7, .int .u32 0] 47))
    replace HG := Lib.hid (HG.out.below B1.out)
    replace BB := Lib.hid (BB.out.trans (B1.out.mono BB.out.size))
    clear B1
    generalize w8.alloc (.cells #[.int .i64 1, .int .u32 7, .int .u32 0] 47) = W9 at *
    generalize w8.heap.size = q9 at *
    have k0 := S9.out.cell 0
    have k1 := S9.out.cell 1
    have k2 := S9.out.cell 2
    simp at k0 k1 k2
    go_wp2_with fail
    refine (awake_any _ HG.out).mono ?_
    rintro e w9 ⟨rfl, hb⟩
    replace BB := Lib.hid (BB.out.trans (hb.mono BB.out.size))
    clear hb k0 k1 k2
    go_wp2_with fail
    go_ret
    exact ⟨rfl, BB.out⟩
  by_cases g2 : (m : Int) ≤ n0
  · rw [if_pos (by omega)] at e
    subst e
    go_wp2_with fail
    refine (FZ.out _ HG.out).mono ?_
    rintro e w7 ⟨rfl, hb⟩
    replace HG := Lib.hid (HG.out.below hb)
    replace BB := Lib.hid (BB.out.trans (hb.mono BB.out.size))
    clear hb
    go_wp2_with fail
    refine (ST.out _).mono ?_
    rintro e w8 ⟨rfl, hb⟩
    replace HG := Lib.hid (HG.out.below hb)
    replace BB := Lib.hid (BB.out.trans (hb.mono BB.out.size))
    clear hb
    go_upto_region 11 with fail
    have S9 := Lib.hid (Box.new w8 #[.int .i64 1, .int .u32 7, .int .u32 0] 47 rfl)
    have B1 := Lib.hid (below1 w8 (.cells #[.int .i64 1, .int .u32 7, .int .u32 0] 47))
    replace HG := Lib.hid (HG.out.below B1.out)
    replace BB := Lib.hid (BB.out.trans (B1.out.mono BB.out.size))
    clear B1
    generalize w8.alloc (.cells #[.int .i64 1, .int .u32 7, .int .u32 0] 47) = W9 at *
    generalize w8.heap.size = q9 at *
    have k0 := S9.out.cell 0
    have k1 := S9.out.cell 1
    have k2 := S9.out.cell 2
    simp at k0 k1 k2
    go_wp2_with fail
    refine (awake_any _ HG.out).mono ?_
    rintro e w9 ⟨rfl, hb⟩
    replace BB := Lib.hid (BB.out.trans (hb.mono BB.out.size))
    clear hb k0 k1 k2
    go_wp2_with fail
    go_ret
    exact ⟨rfl, BB.out⟩
  by_cases g3 : n1 < 0
  · rw [if_pos (by omega)] at e
    subst e
    go_wp2_with fail
    refine (FZ.out _ HG.out).mono ?_
    rintro e w7 ⟨rfl, hb⟩
    replace HG := Lib.hid (HG.out.below hb)
    replace BB := Lib.hid (BB.out.trans (hb.mono BB.out.size))
    clear hb
    go_wp2_with fail
    refine (ST.out _).mono ?_
    rintro e w8 ⟨rfl, hb⟩
    replace HG := Lib.hid (HG.out.below hb)
    replace BB := Lib.hid (BB.out.trans (hb.mono BB.out.size))
    clear hb
    go_upto_region 11 with fail
    have S9 := Lib.hid (Box.new w8 #[.int .i64 1, .int .u32 7, .int .u32 0] 47 rfl)
    have B1 := Lib.hid (below1 w8 (.cells #[.int .i64 1, .int .u32 7, .int .u32 0] 47))
    replace HG := Lib.hid (HG.out.below B1.out)
    replace BB := Lib.hid (BB.out.trans (B1.out.mono BB.out.size))
    clear B1
    generalize w8.alloc (.cells #[.int .i64 1, .int .u32 7, .int .u32 0] 47) = W9 at *
    generalize w8.heap.size = q9 at *
    have k0 := S9.out.cell 0
    have k1 := S9.out.cell 1
    have k2 := S9.out.cell 2
    simp at k0 k1 k2
    go_wp2_with fail
    refine (awake_any _ HG.out).mono ?_
    rintro e w9 ⟨rfl, hb⟩
    replace BB := Lib.hid (BB.out.trans (hb.mono BB.out.size))
    clear hb k0 k1 k2
    go_wp2_with fail
    go_ret
    exact ⟨rfl, BB.out⟩
  by_cases g4 : 3 ≤ n1
  · rw [if_pos (by omega)] at e
    subst e
    have g5 : ¬ n1 ≤ 2 := by omega
    go_wp2_with fail
    refine (FZ.out _ HG.out).mono ?_
    rintro e w7 ⟨rfl, hb⟩
    replace HG := Lib.hid (HG.out.below hb)
    replace BB := Lib.hid (BB.out.trans (hb.mono BB.out.size))
    clear hb
    go_wp2_with fail
    refine (ST.out _).mono ?_
    rintro e w8 ⟨rfl, hb⟩
    replace HG := Lib.hid (HG.out.below hb)
    replace BB := Lib.hid (BB.out.trans (hb.mono BB.out.size))
    clear hb
    go_upto_region 11 with fail
    have S9 := Lib.hid (Box.new w8 #[.int .i64 1, .int .u32 7, .int .u32 0] 47 rfl)
    have B1 := Lib.hid (below1 w8 (.cells #[.int .i64 1, .int .u32 7, .int .u32 0] 47))
    replace HG := Lib.hid (HG.out.below B1.out)
    replace BB := Lib.hid (BB.out.trans (B1.out.mono BB.out.size))
    clear B1
    generalize w8.alloc (.cells #[.int .i64 1, .int .u32 7, .int .u32 0] 47) = W9 at *
    generalize w8.heap.size = q9 at *
    have k0 := S9.out.cell 0
    have k1 := S9.out.cell 1
    have k2 := S9.out.cell 2
    simp at k0 k1 k2
    go_wp2_with fail
    refine (awake_any _ HG.out).mono ?_
    rintro e w9 ⟨rfl, hb⟩
    replace BB := Lib.hid (BB.out.trans (hb.mono BB.out.size))
    clear hb k0 k1 k2
    go_wp2_with fail
    go_ret
    exact ⟨rfl, BB.out⟩
  rw [if_neg (by omega)] at e
  subst e
  have g5 : n1 ≤ 2 := by omega
  have g6 : (0 : Int) ≤ n0 := by omega
  have g7 : n0 < (m : Int) := by omega
  have g8 : (0 : Int) ≤ n1 := by omega
  have q1 : IntKind.i64.wrap ((x : Int) + 2) = (x : Int) + 2 := IntWalk.i64_in _ (by omega)
  have q2 : IntKind.i64.wrap (3 * n0) = 3 * n0 := IntWalk.i64_in _ (by omega)
  have q3 : IntKind.i64.wrap ((x : Int) + 2 + 3 * n0) = (x : Int) + 2 + 3 * n0 := IntWalk.i64_in _ (by omega)
  have q4 : IntKind.i64.wrap ((x : Int) + 2 + 3 * n0 + n1) = (x : Int) + 2 + 3 * n0 + n1 := IntWalk.i64_in _ (by omega)
  have q5 : ((x : Int) + (2 + 3 * n0 + n1) != (x : Int) + 2 + 3 * n0 + n1) = false := by rw [bne_eq_false_iff_eq]; omega
  go_wp2_with fail
  refine (FZ.out _ HG.out).mono ?_
  rintro e w7 ⟨rfl, hb⟩
  replace HG := Lib.hid (HG.out.below hb)
  replace BB := Lib.hid (BB.out.trans (hb.mono BB.out.size))
  clear hb
  go_wp2_with fail
  refine (ST.out _).mono ?_
  rintro e w8 ⟨rfl, hb⟩
  replace HG := Lib.hid (HG.out.below hb)
  replace BB := Lib.hid (BB.out.trans (hb.mono BB.out.size))
  clear hb
  go_upto_region 11 with fail
  have S9 := Lib.hid (Box.new w8 #[.int .i64 1, .int .u32 7, .int .u32 0] 47 rfl)
  have B1 := Lib.hid (below1 w8 (.cells #[.int .i64 1, .int .u32 7, .int .u32 0] 47))
  replace HG := Lib.hid (HG.out.below B1.out)
  replace BB := Lib.hid (BB.out.trans (B1.out.mono BB.out.size))
  clear B1
  generalize w8.alloc (.cells #[.int .i64 1, .int .u32 7, .int .u32 0] 47) = W9 at *
  generalize w8.heap.size = q9 at *
  have k0 := S9.out.cell 0
  have k1 := S9.out.cell 1
  have k2 := S9.out.cell 2
  simp at k0 k1 k2
  go_wp2_with fail
  refine (awake_any _ HG.out).mono ?_
  rintro e w9 ⟨rfl, hb⟩
  replace BB := Lib.hid (BB.out.trans (hb.mono BB.out.size))
  clear hb k0 k1 k2
  go_wp2_with fail
  go_ret
  exact ⟨rfl, BB.out⟩
end Go.Proofs.YtfegeahieajmkaaDoor
