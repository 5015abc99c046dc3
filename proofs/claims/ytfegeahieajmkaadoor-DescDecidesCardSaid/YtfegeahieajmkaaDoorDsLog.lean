/- desc.Logical. -/
import Derived.Test.YtfegeahieajmkaaDoorDsRead
import Derived.Deep.DeepCutAuto
namespace Go.Proofs.YtfegeahieajmkaaDoor
open Go.ChangeShapes Go.WideShapes Go.ChangeAt Go.RowKit Go.Maps
open Lay (startL checkI placeI mayI sizeI Ok starts checkI_ok)
theorem find_yes {x : Int} {L : List En} {k : Nat} (hk : k < L.length) (h : hitE x L[k]! = true) (hn : ∀ i, i < k → hitE x L[i]! = false) : L.find? (hitE x) = some L[k]! := by
  induction L generalizing k with
  | nil => simp at hk
  | cons e r ih =>
    cases k with
    | zero => show List.find? (hitE x) (e :: r) = some e; exact List.find?_cons_of_pos h
    | succ k =>
      have h0 := hn 0 (by omega)
      rw [List.find?_cons_of_neg (show ¬ hitE x e = true by rw [show hitE x e = false from h0]; decide)]
      exact ih (by simpa using hk) (by simpa using h) (fun i hi => by simpa using hn (i + 1) (by omega))
theorem find_no {x : Int} {L : List En} (hn : ∀ i, i < L.length → hitE x L[i]! = false) : L.find? (hitE x) = none := by
  rw [List.find?_eq_none]
  intro e he
  obtain ⟨k, hk, rfl⟩ := at_mem he
  rw [hn k hk]; decide
theorem rdD_len {T C B : Nat} (h : Ok T C B) (M : List Wd) (who : Int) : (rdD T C B M who).2.2.2.length ≤ 32 := by
  unfold rdD
  by_cases h0 : rdE T C B M who = 0
  · rw [if_pos h0]
    have hl : ¬ M.length < startL T C B 7 := fun hl => by rw [rdE_short h hl] at h0; cases h0
    rw [rdE_long h (by omega)] at h0
    by_cases h1 : (placeI T C B who).1 < 0
    · rw [if_pos h1] at h0; cases h0
    rw [if_neg h1] at h0
    by_cases h2 : rdB T C B (M.drop (placeI T C B who).1.toNat) who = true
    · unfold rdB at h2
      rw [Bool.and_eq_true] at h2
      have h3 := h2.1
      unfold decB at h3
      rw [Bool.and_eq_true] at h3
      have h4 := (of_decide_eq_true h3.1).2
      unfold descA
      rw [entsA_len]
      rcases place_room h who with hp | ⟨a, m, hp, hm, _, _⟩
      · rw [hp] at h1; exact absurd (by decide) h1
      · rw [hp] at h4 ⊢
        simp only at h4 ⊢
        omega
    · rw [if_neg h2] at h0; cases h0
  · rw [if_neg h0]; exact Nat.zero_le _
theorem logE_short {T C B : Nat} (h : Ok T C B) {M : List Wd} {x : Int} (hl : M.length < startL T C B 7) : logE T C B M x = 1 := by
  unfold logE
  rw [if_pos]
  right
  unfold sizeI
  rw [checkI_ok h, if_pos rfl]
  simp only [Int.toNat_natCast]
  omega
theorem logE_long {T C B : Nat} (h : Ok T C B) {M : List Wd} {x : Int} (hl : startL T C B 7 ≤ M.length) : logE T C B M x = if mayI T C B x = false then 10 else 0 := by
  unfold logE
  rw [if_neg]
  unfold sizeI
  rw [checkI_ok h, if_pos rfl]
  simp only [Int.toNat_natCast]
  omega
theorem logW_no {T C B x : Int} {M : List Wd} (h : logE T C B M x ≠ 0) : logW T C B M x = (0, 0, 0) := by unfold logW; rw [if_pos h]
theorem logW_yes {T C B x : Int} {M : List Wd} (h : logE T C B M x = 0) : logW T C B M x = logL T C B M x M[x.toNat]! := by unfold logW; rw [if_neg (by rw [h]; simp)]
set_option maxRecDepth 100000 in
set_option maxHeartbeats 6400000 in
theorem logical_any (T C B : Nat) (v : Value) (M : List Wd) (x : Int) (w : World) (hg : Lay.Gl w) (hok : Ok T C B) (hv : WS w v M) (hk : M.length ≤ 5000) (ho : ∀ x ∈ M, OkW x) : Calls Tryd.prog 31 #[.agg #[.int .i64 T, .int .i64 C, .int .i64 B], v, .int .i64 x] w fun e w' => e = .returned (.tuple #[wdV (logW T C B M x), .int .i64 (logE T C B M x)]) ∧ Below w.heap.size w w' := by
  have HG := Lib.hid hg
  have HV := Lib.hid hv
  have HO := Lib.hid ho
  have OK := Lib.hid hok
  have RE := Lib.hid (fun who W h hw hlt => read_any T C B v M who W h hok (hv.below hw) hk ho hlt)
  have CK := Lib.hid (fun W h => Lay.check_any T C B W h)
  have SZ := Lib.hid (fun W h => Lay.size_any T C B W h)
  have MY := Lib.hid (fun W h => Lay.may_any T C B x W h)
  rw [checkI_ok hok] at CK
  rw [show sizeI T C B = (startL T C B 7 : Int) by unfold sizeI; rw [checkI_ok hok, if_pos rfl]; simp] at SZ
  unfold Lay.LV at CK SZ MY
  have MS := Lib.hid (fun h => may_size hok (x := x) h)
  have LE := Lib.hid (fun h => logE_short hok (M := M) (x := x) h)
  have LL := Lib.hid (fun h => logE_long hok (M := M) (x := x) h)
  obtain ⟨a1, cp, rfl, hcap⟩ := hv.form
  obtain ⟨n, hn⟩ : ∃ n, M.length = n := ⟨_, rfl⟩
  have HN := Lib.hid hn
  rw [hn] at HV hcap hk RE LE LL ⊢
  obtain ⟨sz, hsz⟩ : ∃ x, startL T C B 7 = x := ⟨_, rfl⟩
  have hs5 : sz ≤ 5200 := by rw [← hsz]; exact Lay.startL_le T C B hok.1 7 (by omega)
  rw [hsz] at SZ LE LL MS
  obtain ⟨er, her⟩ : ∃ y, logE T C B M x = y := ⟨_, rfl⟩
  obtain ⟨ow, how⟩ : ∃ y, logW T C B M x = y := ⟨_, rfl⟩
  have WN := Lib.hid (fun h => logW_no (T := T) (C := C) (B := B) (M := M) (x := x) h)
  have WY := Lib.hid (fun h => logW_yes (T := T) (C := C) (B := B) (M := M) (x := x) h)
  rw [her, how] at WN WY ⊢
  rw [her] at LE LL
  have RN := Lib.hid (rdD_len hok M)
  clear hv hn hg ho hok hsz her how
  unfold wdV
  go_enter Tryd.func31, Tryd.ntmps31
  go_upto_region 1 with fail
  have B1 := Lib.hid (below1 w (.cells #[.int .i64 T, .int .i64 C, .int .i64 B] 29))
  have B2 := Lib.hid (below1 (w.alloc (.cells #[.int .i64 T, .int .i64 C, .int .i64 B] 29)) (.cells #[.int .i64 0, .int .u32 0, .int .u32 0] 47))
  have BB := Lib.hid (B1.out.trans (B2.out.mono B1.out.size))
  have LB := Lib.hid ((Box.new w #[.int .i64 T, .int .i64 C, .int .i64 B] 29 rfl).below B2.out)
  have RB := Lib.hid (Box.new (w.alloc (.cells #[.int .i64 T, .int .i64 C, .int .i64 B] 29)) #[.int .i64 0, .int .u32 0, .int .u32 0] 47 (n := w.heap.size + 1) (by simp))
  replace HG := Lib.hid (HG.out.below BB.out)
  obtain ⟨W, hW⟩ : ∃ W, ((w.alloc (.cells #[.int .i64 T, .int .i64 C, .int .i64 B] 29)).alloc (.cells #[.int .i64 0, .int .u32 0, .int .u32 0] 47)) = W := ⟨_, rfl⟩
  obtain ⟨q, hq⟩ : ∃ q, w.heap.size = q := ⟨_, rfl⟩
  have HQ := Lib.hid hq
  rw [hW] at BB LB RB HG
  rw [hq] at LB RB
  rw [hW, hq]
  clear hW hq B1 B2
  have x0 := LB.out.cell 0
  have x1 := LB.out.cell 1
  have x2 := LB.out.cell 2
  simp at x0 x1 x2
  go_wp2_with fail
  refine (CK.out _ HG.out).mono ?_
  rintro e w2 ⟨rfl, hb⟩
  replace LB := Lib.hid (LB.out.below hb)
  replace RB := Lib.hid (RB.out.below hb)
  replace HG := Lib.hid (HG.out.below hb)
  replace BB := Lib.hid (BB.out.trans (hb.mono BB.out.size))
  clear hb x0 x1 x2
  have x0 := LB.out.cell 0
  have x1 := LB.out.cell 1
  have x2 := LB.out.cell 2
  simp at x0 x1 x2
  go_wp2_with fail
  refine (SZ.out _ HG.out).mono ?_
  rintro e w3 ⟨rfl, hb⟩
  replace LB := Lib.hid (LB.out.below hb)
  replace RB := Lib.hid (RB.out.below hb)
  replace HG := Lib.hid (HG.out.below hb)
  replace BB := Lib.hid (BB.out.trans (hb.mono BB.out.size))
  clear hb x0 x1 x2 CK SZ
  have x0 := LB.out.cell 0
  have x1 := LB.out.cell 1
  have x2 := LB.out.cell 2
  simp at x0 x1 x2
  by_cases hsh : n < sz
  · have hsh' : (n : Int) < (sz : Int) := by omega
    have e1 := LE.out hsh
    have e2 := WN.out (by rw [e1]; decide)
    subst e1 e2
    have k0 := RB.out.cell 0
    have k1 := RB.out.cell 1
    have k2 := RB.out.cell 2
    simp at k0 k1 k2
    have f0 := RB.out.free 0
    have f1 := RB.out.free 1
    have f2 := RB.out.free 2
    have l0 := RB.out.lt
    go_wp2_with fail
    clear k0 k1 k2 f0 f1 f2 l0
    replace RB : Hid (Box (((w3.setCell ⟨q + 1, 0, none⟩ (.int .i64 0)).setCell ⟨q + 1, 1, none⟩ (.int .u32 0)).setCell ⟨q + 1, 2, none⟩ (.int .u32 0)) (q + 1) #[.int .i64 0, .int .u32 0, .int .u32 0] 47) := Lib.hid (((RB.out.set 0 _).set 1 _).set 2 _)
    replace BB : Hid (Below w.heap.size w (((w3.setCell ⟨q + 1, 0, none⟩ (.int .i64 0)).setCell ⟨q + 1, 1, none⟩ (.int .u32 0)).setCell ⟨q + 1, 2, none⟩ (.int .u32 0))) := Lib.hid (((BB.out.setCell (show w.heap.size ≤ q + 1 by have := HQ.out; omega) _).setCell (show w.heap.size ≤ q + 1 by have := HQ.out; omega) _).setCell (show w.heap.size ≤ q + 1 by have := HQ.out; omega) _)
    generalize (((w3.setCell ⟨q + 1, 0, none⟩ (.int .i64 0)).setCell ⟨q + 1, 1, none⟩ (.int .u32 0)).setCell ⟨q + 1, 2, none⟩ (.int .u32 0)) = W7 at *
    have k0 := RB.out.cell 0
    have k1 := RB.out.cell 1
    have k2 := RB.out.cell 2
    simp at k0 k1 k2
    exact bodyPost_ret (v := .tuple #[.agg #[.int .i64 0, .int .u32 0, .int .u32 0], .int .i64 1]) (by simp [results, Tryd.f31, go_sem, k0, k1, k2]) rfl ⟨rfl, BB.out⟩
  have hsh' : ¬ (n : Int) < (sz : Int) := by omega
  replace LL := Lib.hid (LL.out (by omega))
  clear LE
  go_wp2_with fail
  refine (MY.out _ HG.out).mono ?_
  rintro e w4 ⟨rfl, hb⟩
  replace LB := Lib.hid (LB.out.below hb)
  replace RB := Lib.hid (RB.out.below hb)
  replace HG := Lib.hid (HG.out.below hb)
  replace BB := Lib.hid (BB.out.trans (hb.mono BB.out.size))
  clear hb x0 x1 x2 MY
  have x0 := LB.out.cell 0
  have x1 := LB.out.cell 1
  have x2 := LB.out.cell 2
  simp at x0 x1 x2
  cases hm : mayI T C B x with
  | false =>
    rw [if_pos hm] at LL
    have e1 := LL.out
    have e2 := WN.out (by rw [e1]; decide)
    subst e1 e2
    clear hm
    have k0 := RB.out.cell 0
    have k1 := RB.out.cell 1
    have k2 := RB.out.cell 2
    simp at k0 k1 k2
    have f0 := RB.out.free 0
    have f1 := RB.out.free 1
    have f2 := RB.out.free 2
    have l0 := RB.out.lt
    go_wp2_with fail
    clear k0 k1 k2 f0 f1 f2 l0
    replace RB : Hid (Box (((w4.setCell ⟨q + 1, 0, none⟩ (.int .i64 0)).setCell ⟨q + 1, 1, none⟩ (.int .u32 0)).setCell ⟨q + 1, 2, none⟩ (.int .u32 0)) (q + 1) #[.int .i64 0, .int .u32 0, .int .u32 0] 47) := Lib.hid (((RB.out.set 0 _).set 1 _).set 2 _)
    replace BB : Hid (Below w.heap.size w (((w4.setCell ⟨q + 1, 0, none⟩ (.int .i64 0)).setCell ⟨q + 1, 1, none⟩ (.int .u32 0)).setCell ⟨q + 1, 2, none⟩ (.int .u32 0))) := Lib.hid (((BB.out.setCell (show w.heap.size ≤ q + 1 by have := HQ.out; omega) _).setCell (show w.heap.size ≤ q + 1 by have := HQ.out; omega) _).setCell (show w.heap.size ≤ q + 1 by have := HQ.out; omega) _)
    generalize (((w4.setCell ⟨q + 1, 0, none⟩ (.int .i64 0)).setCell ⟨q + 1, 1, none⟩ (.int .u32 0)).setCell ⟨q + 1, 2, none⟩ (.int .u32 0)) = W7 at *
    have k0 := RB.out.cell 0
    have k1 := RB.out.cell 1
    have k2 := RB.out.cell 2
    simp at k0 k1 k2
    exact bodyPost_ret (v := .tuple #[.agg #[.int .i64 0, .int .u32 0, .int .u32 0], .int .i64 10]) (by simp [results, Tryd.f31, go_sem, k0, k1, k2]) rfl ⟨rfl, BB.out⟩
  | true =>
    obtain ⟨hx0, hx1⟩ := MS.out hm
    rw [if_neg (by rw [hm]; decide)] at LL
    have e1 := LL.out
    subst e1
    have e2 := WY.out rfl
    clear hm LL MS WN WY
    obtain ⟨k, rfl⟩ : ∃ k : Nat, x = k := ⟨x.toNat, by omega⟩
    rw [Int.toNat_natCast] at e2
    have hkn : k < n := by omega
    obtain ⟨b, off, rfl, hbl, hln, hc⟩ := HV.out.addr hkn
    obtain ⟨c0, c1, c2⟩ := wd_cells hc (by rw [hln]; exact hkn)
    rw [← BB.out.cell (p := ⟨b, _, none⟩) hbl] at c0 c1 c2
    obtain ⟨-, o2, o3⟩ := HO.out _ (mem_at (L := M) (k := k) (by rw [HN.out]; exact hkn))
    clear hc hln
    obtain ⟨y, hy⟩ : ∃ y, M[k]! = y := ⟨_, rfl⟩
    rw [hy] at c0 c1 c2 o2 o3 e2
    clear hy
    obtain ⟨y0, y1, y2⟩ := y
    simp only at c0 c1 c2 o2 o3
    have WH := Lib.hid (fun W => who_any y2 W o3.1 o3.2)
    have HX := Lib.hid e2
    unfold logL ownB at HX
    simp only at HX
    clear e2
    go_upto_region 6 with fail
    have SB := Lib.hid (Box.new w4 #[.int .i64 y0, .int .u32 y1, .int .u32 y2] 47 rfl)
    have B5 := Lib.hid (below1 w4 (.cells #[.int .i64 y0, .int .u32 y1, .int .u32 y2] 47))
    replace LB := Lib.hid (LB.out.below B5.out)
    replace RB := Lib.hid (RB.out.below B5.out)
    replace HG := Lib.hid (HG.out.below B5.out)
    replace BB := Lib.hid (BB.out.trans (B5.out.mono BB.out.size))
    clear x0 x1 x2 c0 c1 c2 B5
    generalize w4.alloc (.cells #[.int .i64 y0, .int .u32 y1, .int .u32 y2] 47) = W5 at *
    generalize w4.heap.size = p at *
    have x0 := LB.out.cell 0
    have x1 := LB.out.cell 1
    have x2 := LB.out.cell 2
    simp at x0 x1 x2
    have z0 := SB.out.cell 0
    have z1 := SB.out.cell 1
    have z2 := SB.out.cell 2
    simp at z0 z1 z2
    go_wp2_with fail
    refine (WH.out _).mono ?_
    rintro e w5 ⟨rfl, hw5⟩
    obtain rfl := hw5
    have W1 := Lib.hid (show (whoI y2).1 < 9223372036854775808 by unfold whoI; split <;> simp <;> omega)
    obtain ⟨s0, hs0⟩ : ∃ y, (whoI y2).1 = y := ⟨_, rfl⟩
    obtain ⟨s1, hs1⟩ : ∃ y, (whoI y2).2 = y := ⟨_, rfl⟩
    rw [hs0] at HX W1
    rw [hs1] at HX
    rw [hs0, hs1]
    clear hs0 hs1 WH
    go_wp2_with fail
    refine (RE.out s0 _ HG.out BB.out W1.out).mono ?_
    rintro e w6 ⟨⟨u, rfl, hes⟩, hb⟩
    replace LB := Lib.hid (LB.out.below hb)
    replace RB := Lib.hid (RB.out.below hb)
    replace HG := Lib.hid (HG.out.below hb)
    replace BB := Lib.hid (BB.out.trans (hb.mono BB.out.size))
    replace SB := Lib.hid (SB.out.below hb)
    clear hb x0 x1 x2 z0 z1 z2 RE
    have R32 := Lib.hid (RN.out s0)
    obtain ⟨re, hre⟩ : ∃ y, rdE T C B M s0 = y := ⟨_, rfl⟩
    obtain ⟨d, hd⟩ : ∃ y, rdD T C B M s0 = y := ⟨_, rfl⟩
    rw [hre, hd] at HX
    rw [hd] at hes R32
    rw [hre, hd]
    clear hre hd RN
    obtain ⟨d0, d1, d2, L⟩ := d
    simp only at hes HX R32 ⊢
    obtain ⟨ua, uc, rfl, _⟩ := hes.form
    have EV := Lib.hid hes
    clear hes
    obtain ⟨m, hm⟩ : ∃ m, L.length = m := ⟨_, rfl⟩
    have HM := Lib.hid hm
    rw [hm] at EV R32 ⊢
    have hm32 := R32.out
    clear hm R32
    go_upto_region 8 with fail
    have DB := Lib.hid (Box.new w6 #[.int .i64 d0, .int .i64 d1, .int .i64 d2, .slice ua m uc] 25 rfl)
    have B5 := Lib.hid (below1 w6 (.cells #[.int .i64 d0, .int .i64 d1, .int .i64 d2, .slice ua m uc] 25))
    replace LB := Lib.hid (LB.out.below B5.out)
    replace RB := Lib.hid (RB.out.below B5.out)
    replace HG := Lib.hid (HG.out.below B5.out)
    replace BB := Lib.hid (BB.out.trans (B5.out.mono BB.out.size))
    replace SB := Lib.hid (SB.out.below B5.out)
    replace EV := Lib.hid (EV.out.below B5.out)
    clear B5
    generalize w6.alloc (.cells #[.int .i64 d0, .int .i64 d1, .int .i64 d2, .slice ua m uc] 25) = W6 at *
    generalize w6.heap.size = p2 at *
    have v0 := DB.out.cell 0
    have v1 := DB.out.cell 1
    have v2 := DB.out.cell 2
    have v3 := DB.out.cell 3
    simp at v0 v1 v2 v3
    have z0 := SB.out.cell 0
    have z1 := SB.out.cell 1
    have z2 := SB.out.cell 2
    simp at z0 z1 z2
    by_cases h1 : re = 0
    case neg =>
      have h1' : (re == 0) = false := by rw [beq_eq_false_iff_ne]; exact h1
      rw [decide_eq_false h1, Bool.false_and, if_neg (by decide)] at HX
      have k0 := RB.out.cell 0
      have k1 := RB.out.cell 1
      have k2 := RB.out.cell 2
      simp at k0 k1 k2
      have f0 := RB.out.free 0
      have f1 := RB.out.free 1
      have f2 := RB.out.free 2
      have l0 := RB.out.lt
      go_wp2_with fail
      clear k0 k1 k2 f0 f1 f2 l0
      replace RB : Hid (Box (((W6.setCell ⟨q + 1, 0, none⟩ (.int .i64 y0)).setCell ⟨q + 1, 1, none⟩ (.int .u32 y1)).setCell ⟨q + 1, 2, none⟩ (.int .u32 0)) (q + 1) #[.int .i64 y0, .int .u32 y1, .int .u32 0] 47) := Lib.hid (((RB.out.set 0 _).set 1 _).set 2 _)
      replace BB : Hid (Below w.heap.size w (((W6.setCell ⟨q + 1, 0, none⟩ (.int .i64 y0)).setCell ⟨q + 1, 1, none⟩ (.int .u32 y1)).setCell ⟨q + 1, 2, none⟩ (.int .u32 0))) := Lib.hid (((BB.out.setCell (show w.heap.size ≤ q + 1 by have := HQ.out; omega) _).setCell (show w.heap.size ≤ q + 1 by have := HQ.out; omega) _).setCell (show w.heap.size ≤ q + 1 by have := HQ.out; omega) _)
      generalize (((W6.setCell ⟨q + 1, 0, none⟩ (.int .i64 y0)).setCell ⟨q + 1, 1, none⟩ (.int .u32 y1)).setCell ⟨q + 1, 2, none⟩ (.int .u32 0)) = W7 at *
      have k0 := RB.out.cell 0
      have k1 := RB.out.cell 1
      have k2 := RB.out.cell 2
      simp at k0 k1 k2
      exact bodyPost_ret (v := .tuple #[.agg #[.int .i64 y0, .int .u32 y1, .int .u32 0], .int .i64 0]) (by simp [results, Tryd.f31, go_sem, k0, k1, k2]) rfl ⟨by rw [HX.out], BB.out⟩
    subst h1
    rw [decide_eq_true rfl, Bool.true_and] at HX
    by_cases h2 : d1 = s1
    case neg =>
      have h2' : (d1 == s1) = false := by rw [beq_eq_false_iff_ne]; exact h2
      rw [decide_eq_false h2, Bool.false_and, if_neg (by decide)] at HX
      have k0 := RB.out.cell 0
      have k1 := RB.out.cell 1
      have k2 := RB.out.cell 2
      simp at k0 k1 k2
      have f0 := RB.out.free 0
      have f1 := RB.out.free 1
      have f2 := RB.out.free 2
      have l0 := RB.out.lt
      go_wp2_with fail
      clear k0 k1 k2 f0 f1 f2 l0
      replace RB : Hid (Box (((W6.setCell ⟨q + 1, 0, none⟩ (.int .i64 y0)).setCell ⟨q + 1, 1, none⟩ (.int .u32 y1)).setCell ⟨q + 1, 2, none⟩ (.int .u32 0)) (q + 1) #[.int .i64 y0, .int .u32 y1, .int .u32 0] 47) := Lib.hid (((RB.out.set 0 _).set 1 _).set 2 _)
      replace BB : Hid (Below w.heap.size w (((W6.setCell ⟨q + 1, 0, none⟩ (.int .i64 y0)).setCell ⟨q + 1, 1, none⟩ (.int .u32 y1)).setCell ⟨q + 1, 2, none⟩ (.int .u32 0))) := Lib.hid (((BB.out.setCell (show w.heap.size ≤ q + 1 by have := HQ.out; omega) _).setCell (show w.heap.size ≤ q + 1 by have := HQ.out; omega) _).setCell (show w.heap.size ≤ q + 1 by have := HQ.out; omega) _)
      generalize (((W6.setCell ⟨q + 1, 0, none⟩ (.int .i64 y0)).setCell ⟨q + 1, 1, none⟩ (.int .u32 y1)).setCell ⟨q + 1, 2, none⟩ (.int .u32 0)) = W7 at *
      have k0 := RB.out.cell 0
      have k1 := RB.out.cell 1
      have k2 := RB.out.cell 2
      simp at k0 k1 k2
      exact bodyPost_ret (v := .tuple #[.agg #[.int .i64 y0, .int .u32 y1, .int .u32 0], .int .i64 0]) (by simp [results, Tryd.f31, go_sem, k0, k1, k2]) rfl ⟨by rw [HX.out], BB.out⟩
    subst h2
    rw [decide_eq_true rfl, Bool.true_and] at HX
    by_cases h3 : d2 = 1
    case neg =>
      have h3' : (d2 == 1) = false := by rw [beq_eq_false_iff_ne]; exact h3
      rw [decide_eq_false h3, if_neg (by decide)] at HX
      have k0 := RB.out.cell 0
      have k1 := RB.out.cell 1
      have k2 := RB.out.cell 2
      simp at k0 k1 k2
      have f0 := RB.out.free 0
      have f1 := RB.out.free 1
      have f2 := RB.out.free 2
      have l0 := RB.out.lt
      go_wp2_with fail
      clear k0 k1 k2 f0 f1 f2 l0
      replace RB : Hid (Box (((W6.setCell ⟨q + 1, 0, none⟩ (.int .i64 y0)).setCell ⟨q + 1, 1, none⟩ (.int .u32 y1)).setCell ⟨q + 1, 2, none⟩ (.int .u32 0)) (q + 1) #[.int .i64 y0, .int .u32 y1, .int .u32 0] 47) := Lib.hid (((RB.out.set 0 _).set 1 _).set 2 _)
      replace BB : Hid (Below w.heap.size w (((W6.setCell ⟨q + 1, 0, none⟩ (.int .i64 y0)).setCell ⟨q + 1, 1, none⟩ (.int .u32 y1)).setCell ⟨q + 1, 2, none⟩ (.int .u32 0))) := Lib.hid (((BB.out.setCell (show w.heap.size ≤ q + 1 by have := HQ.out; omega) _).setCell (show w.heap.size ≤ q + 1 by have := HQ.out; omega) _).setCell (show w.heap.size ≤ q + 1 by have := HQ.out; omega) _)
      generalize (((W6.setCell ⟨q + 1, 0, none⟩ (.int .i64 y0)).setCell ⟨q + 1, 1, none⟩ (.int .u32 y1)).setCell ⟨q + 1, 2, none⟩ (.int .u32 0)) = W7 at *
      have k0 := RB.out.cell 0
      have k1 := RB.out.cell 1
      have k2 := RB.out.cell 2
      simp at k0 k1 k2
      exact bodyPost_ret (v := .tuple #[.agg #[.int .i64 y0, .int .u32 y1, .int .u32 0], .int .i64 0]) (by simp [results, Tryd.f31, go_sem, k0, k1, k2]) rfl ⟨by rw [HX.out], BB.out⟩
    subst h3
    rw [decide_eq_true rfl, if_pos rfl] at HX
    have h2' : (d1 == d1) = true := by rw [beq_iff_eq]
    go_wp2_with fail
    clear v0 v1 v2 v3 z0 z1 z2 h2'
    go_loopw [66] (fun iv wr => ∃ j : Nat, j ≤ m ∧ iv = .int .i64 j ∧ (∀ i, i < j → hitE k L[i]! = false) ∧ Below W6.heap.size W6 wr) (fun iv _ => m - (intOf iv).toNat)
    case atStart => exact ⟨0, by omega, rfl, fun i hi => by omega, Below.refl _ _⟩
    case round =>
      obtain ⟨j, hj, rfl, hno, hb⟩ := hrel
      have NO := Lib.hid hno
      have BW := Lib.hid hb
      replace LB := Lib.hid (LB.out.below hb)
      replace RB := Lib.hid (RB.out.below hb)
      replace HG := Lib.hid (HG.out.below hb)
      replace BB := Lib.hid (BB.out.trans (hb.mono BB.out.size))
      replace SB := Lib.hid (SB.out.below hb)
      clear hb hno
      by_cases hlt : j < m
      · obtain ⟨b2, off2, rfl, hbl2, hln, hc⟩ := EV.out.addr hlt
        obtain ⟨c0, c1, c2, c3, c4, c5⟩ := en_cells hc (by rw [hln]; exact hlt)
        rw [← BW.out.cell (p := ⟨b2, _, none⟩) hbl2] at c0 c1 c2 c3 c4 c5
        clear hc hln
        have FY := Lib.hid (fun h => find_yes (x := k) (L := L) (k := j) (by rw [HM.out]; exact hlt) h NO.out)
        obtain ⟨y, hy⟩ : ∃ y, L[j]! = y := ⟨_, rfl⟩
        have HY := Lib.hid hy
        rw [hy] at c0 c1 c2 c3 c4 c5 FY
        clear hy
        obtain ⟨e0, ⟨e1, e2, e3⟩, e4, e5⟩ := y
        simp only at c0 c1 c2 c3 c4 c5
        go_upto_region 12 with fail
        have EB := Lib.hid (Box.new wr #[.int .i64 e0, .int .i64 e1, .int .u32 e2, .int .u32 e3, .int .i64 e4, .bool e5] 49 rfl)
        have B5 := Lib.hid (below1 wr (.cells #[.int .i64 e0, .int .i64 e1, .int .u32 e2, .int .u32 e3, .int .i64 e4, .bool e5] 49))
        replace LB := Lib.hid (LB.out.below B5.out)
        replace RB := Lib.hid (RB.out.below B5.out)
        replace HG := Lib.hid (HG.out.below B5.out)
        replace BB := Lib.hid (BB.out.trans (B5.out.mono BB.out.size))
        replace SB := Lib.hid (SB.out.below B5.out)
        replace BW := Lib.hid (BW.out.trans (B5.out.mono BW.out.size))
        clear c0 c1 c2 c3 c4 c5 B5
        generalize wr.alloc (.cells #[.int .i64 e0, .int .i64 e1, .int .u32 e2, .int .u32 e3, .int .i64 e4, .bool e5] 49) = W8 at *
        generalize wr.heap.size = p3 at *
        have v0 := EB.out.cell 0
        have v1 := EB.out.cell 1
        have v2 := EB.out.cell 2
        have v3 := EB.out.cell 3
        have v4 := EB.out.cell 4
        have v5 := EB.out.cell 5
        simp at v0 v1 v2 v3 v4 v5
        by_cases h4 : e0 = (k : Int)
        case neg =>
          have h4' : (e0 == (k : Int)) = false := by rw [beq_eq_false_iff_ne]; exact h4
          go_wp2_with fail
          go_roundw
          case rel =>
            refine ⟨j + 1, by omega, by go_num, fun i hi => ?_, BW.out⟩
            by_cases e : i = j
            · subst e; rw [HY.out]; unfold hitE; rw [decide_eq_false h4]; rfl
            · exact NO.out i (by omega)
          case measure => simp [intOf]; omega
        have h4' : (e0 == (k : Int)) = true := by rw [beq_iff_eq]; exact h4
        cases e5 with
        | false =>
          go_wp2_with fail
          go_roundw
          case rel =>
            refine ⟨j + 1, by omega, by go_num, fun i hi => ?_, BW.out⟩
            by_cases e : i = j
            · subst e; rw [HY.out]; unfold hitE; simp
            · exact NO.out i (by omega)
          case measure => simp [intOf]; omega
        | true =>
          have e7 := FY.out (by unfold hitE; rw [decide_eq_true h4]; rfl)
          rw [e7] at HX
          simp only at HX
          clear FY e7 h4
          have z0 := SB.out.cell 0
          have z1 := SB.out.cell 1
          have z2 := SB.out.cell 2
          simp at z0 z1 z2
          have k0 := RB.out.cell 0
          have k1 := RB.out.cell 1
          have k2 := RB.out.cell 2
          simp at k0 k1 k2
          have f0 := RB.out.free 0
          have f1 := RB.out.free 1
          have f2 := RB.out.free 2
          have l0 := RB.out.lt
          go_wp2_with fail
          clear k0 k1 k2 f0 f1 f2 l0
          replace RB : Hid (Box (((W8.setCell ⟨q + 1, 0, none⟩ (.int .i64 e4)).setCell ⟨q + 1, 1, none⟩ (.int .u32 ((y1 + 1) % 4294967296))).setCell ⟨q + 1, 2, none⟩ (.int .u32 0)) (q + 1) #[.int .i64 e4, .int .u32 ((y1 + 1) % 4294967296), .int .u32 0] 47) := Lib.hid (((RB.out.set 0 _).set 1 _).set 2 _)
          replace BB : Hid (Below w.heap.size w (((W8.setCell ⟨q + 1, 0, none⟩ (.int .i64 e4)).setCell ⟨q + 1, 1, none⟩ (.int .u32 ((y1 + 1) % 4294967296))).setCell ⟨q + 1, 2, none⟩ (.int .u32 0))) := Lib.hid (((BB.out.setCell (show w.heap.size ≤ q + 1 by have := HQ.out; omega) _).setCell (show w.heap.size ≤ q + 1 by have := HQ.out; omega) _).setCell (show w.heap.size ≤ q + 1 by have := HQ.out; omega) _)
          generalize (((W8.setCell ⟨q + 1, 0, none⟩ (.int .i64 e4)).setCell ⟨q + 1, 1, none⟩ (.int .u32 ((y1 + 1) % 4294967296))).setCell ⟨q + 1, 2, none⟩ (.int .u32 0)) = W7 at *
          have k0 := RB.out.cell 0
          have k1 := RB.out.cell 1
          have k2 := RB.out.cell 2
          simp at k0 k1 k2
          exact bodyPost_ret (v := .tuple #[.agg #[.int .i64 e4, .int .u32 ((y1 + 1) % 4294967296), .int .u32 0], .int .i64 0]) (by simp [results, Tryd.f31, go_sem, k0, k1, k2]) rfl ⟨by rw [HX.out]; rfl, BB.out⟩
      · obtain rfl : j = m := by omega
        rw [find_no (fun i hi => NO.out i (by rw [HM.out] at hi; exact hi))] at HX
        simp only at HX
        have z0 := SB.out.cell 0
        have z1 := SB.out.cell 1
        have z2 := SB.out.cell 2
        simp at z0 z1 z2
        have k0 := RB.out.cell 0
        have k1 := RB.out.cell 1
        have k2 := RB.out.cell 2
        simp at k0 k1 k2
        have f0 := RB.out.free 0
        have f1 := RB.out.free 1
        have f2 := RB.out.free 2
        have l0 := RB.out.lt
        go_wp2_with fail
        clear k0 k1 k2 f0 f1 f2 l0
        replace RB : Hid (Box (((wr.setCell ⟨q + 1, 0, none⟩ (.int .i64 y0)).setCell ⟨q + 1, 1, none⟩ (.int .u32 y1)).setCell ⟨q + 1, 2, none⟩ (.int .u32 0)) (q + 1) #[.int .i64 y0, .int .u32 y1, .int .u32 0] 47) := Lib.hid (((RB.out.set 0 _).set 1 _).set 2 _)
        replace BB : Hid (Below w.heap.size w (((wr.setCell ⟨q + 1, 0, none⟩ (.int .i64 y0)).setCell ⟨q + 1, 1, none⟩ (.int .u32 y1)).setCell ⟨q + 1, 2, none⟩ (.int .u32 0))) := Lib.hid (((BB.out.setCell (show w.heap.size ≤ q + 1 by have := HQ.out; omega) _).setCell (show w.heap.size ≤ q + 1 by have := HQ.out; omega) _).setCell (show w.heap.size ≤ q + 1 by have := HQ.out; omega) _)
        generalize (((wr.setCell ⟨q + 1, 0, none⟩ (.int .i64 y0)).setCell ⟨q + 1, 1, none⟩ (.int .u32 y1)).setCell ⟨q + 1, 2, none⟩ (.int .u32 0)) = W7 at *
        have k0 := RB.out.cell 0
        have k1 := RB.out.cell 1
        have k2 := RB.out.cell 2
        simp at k0 k1 k2
        exact bodyPost_ret (v := .tuple #[.agg #[.int .i64 y0, .int .u32 y1, .int .u32 0], .int .i64 0]) (by simp [results, Tryd.f31, go_sem, k0, k1, k2]) rfl ⟨by rw [HX.out], BB.out⟩
end Go.Proofs.YtfegeahieajmkaaDoor
