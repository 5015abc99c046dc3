/- The walk through ModelSwaps. -/
import Derived.Test.YtmophafgmimhcaaMdOnce
namespace Go.Proofs.Ytmophafgmimhcaa
open Go.ChangeShapes Go.WideShapes Go.ChangeAt Go.RowKit Go.Maps
def Bare (X : List Wd) : Prop := ∀ x ∈ X, x.2.2 = 0
theorem bare_bare (M : List Wd) : Bare (bare M) := by
  intro x hx
  unfold bare at hx
  obtain ⟨y, _, rfl⟩ := List.mem_map.1 hx
  rfl
theorem upd_bare (X : List Wd) (L : List En) (h : Bare X) : Bare (upd X L) := by
  induction L generalizing X with
  | nil => exact h
  | cons e r ih =>
    rw [upd_cons]
    refine ih _ ?_
    unfold upd1
    split
    · intro x hx
      rcases List.mem_or_eq_of_mem_set hx with hx | rfl
      · exact h x hx
      · rfl
    · exact h
theorem holds_rholds (X : List Wd) (L : List En) (h : Bare X) : rholds X L = holds X L := by
  unfold rholds holds
  congr 1
  funext e
  unfold rholds1 holds1 hasM atM
  by_cases ha : 0 ≤ e.1 ∧ e.1 < (X.length : Int)
  · rw [if_pos ha, decide_eq_true ha, Bool.true_and, Bool.true_and]
    have h3 := h _ (mem_at (L := X) (k := e.1.toNat) (by omega))
    obtain ⟨y, hy⟩ : ∃ y, X[e.1.toNat]! = y := ⟨_, rfl⟩
    rw [hy] at h3 ⊢
    obtain ⟨y0, y1, y2⟩ := y
    simp only at h3 ⊢
    subst h3
    rw [← Bool.decide_and, Bool.eq_iff_iff, decide_eq_true_iff, decide_eq_true_iff]
    simp
  · rw [decide_eq_false ha, Bool.false_and, Bool.false_and]
/-- A store into the box of a model leaves the rows of words. -/
theorem SK.other3 {w : World} {v : Value} {L : List Wd} (h : WS w v L) {q : Nat} {a : Option Addr} {n c : Nat} {t : TypeId} (hq : Box w q #[.slice a n c] t) (u : Value) : WS (w.setCell ⟨q, 0, none⟩ u) v L := by
  obtain ⟨a', cap, hv, hcap, h | ⟨b, off, ha, hl, hc⟩⟩ := h
  · exact ⟨a', cap, hv, hcap, .inl h⟩
  · by_cases hL : L = []
    · exact ⟨a', cap, hv, hcap, .inl hL⟩
    have hne : b ≠ q := by
      rintro rfl
      have h0 : 0 < L.length := List.length_pos_iff.2 hL
      have c0 := (wd_cells hc h0).1
      rw [hq.cell] at c0
      rcases Nat.eq_zero_or_pos (off + 0 * 3) with e | e
      · rw [e] at c0; simp at c0
      · rw [Array.getElem?_eq_none (show 1 ≤ off + 0 * 3 from e)] at c0; cases c0
    exact ⟨a', cap, hv, hcap, .inr ⟨b, off, ha, by simpa [World.setCell] using hl, fun i hi j x hx => by
      rw [World.cell?_setCell_other _ _ _ _ (by intro e; injection e with e1; first | exact hne e1 | exact hne e1.symm)]
      exact hc i hi j x hx⟩⟩
set_option maxRecDepth 100000 in
set_option maxHeartbeats 6400000 in
theorem swaps_walk (wv qv : Value) (M : List Wd) (Q : List Sl) (w : World) (hm : WS w wv M) (hq : SK slE w qv Q) (_ : ∀ x ∈ M, OkW x) (ho : ∀ x ∈ Q, ∃ L, ES w (.slice x.1 x.2.1 x.2.2) L ∧ ∀ e ∈ L, OkE e) (_ : M.length ≤ maxLen) (hql : Q.length ≤ maxLen) : Calls Try.prog 3 #[wv, qv] w (Good w) := by
  have HM := Lib.hid hm
  have HQ := Lib.hid hq
  have OK := Lib.hid ho
  obtain ⟨qa, qc, rfl, hcap⟩ := hq.form
  obtain ⟨ma, mc, rfl, _⟩ := hm.form
  have FW := Lib.hid (few_any _ M _ Q _ hm hq hql)
  clear hm hq ho hql
  obtain ⟨n, hn⟩ : ∃ n, Q.length = n := ⟨_, rfl⟩
  obtain ⟨mn, hmn⟩ : ∃ n, M.length = n := ⟨_, rfl⟩
  rw [hn] at HQ hcap FW ⊢
  rw [hmn] at HM FW ⊢
  have HN := Lib.hid hn
  have HMN := Lib.hid hmn
  clear hn hmn
  go_enter Try.func3, Try.ntmps3
  go_wp2_with fail
  refine FW.out.mono ?_
  rintro e w1 ⟨b, rfl, hb, hsm⟩
  have BB := Lib.hid hb
  clear hb FW
  cases b with
  | false =>
    go_wp2_with fail
    refine (awake_any _).mono ?_
    rintro e w9 ⟨rfl, hb⟩
    replace BB := Lib.hid (BB.out.trans (hb.mono BB.out.size))
    clear hb
    go_wp2_with fail
    go_ret
    exact ⟨rfl, BB.out⟩
  | true =>
    obtain ⟨s1, s2, s3⟩ := hsm rfl
    have HS := Lib.hid s3
    clear hsm s3
    go_wp2_with fail
    refine (new_any _ M w1 (HM.out.below BB.out) (by rw [HMN.out]; omega)).mono ?_
    rintro e w2 ⟨u, rfl, hu, hb⟩
    obtain ⟨ua, uc, rfl, _⟩ := hu.form
    rw [bare_len, HMN.out] at hu ⊢
    replace BB := Lib.hid (BB.out.trans (hb.mono BB.out.size))
    have U := Lib.hid hu
    clear hu hb
    go_wp2_with fail
    refine (rnew_any _ M w2 (HM.out.below BB.out) (by rw [HMN.out]; omega)).mono ?_
    rintro e w3 ⟨v, rfl, hv, hb⟩
    obtain ⟨va, vc, rfl, _⟩ := hv.form
    rw [bare_len, HMN.out] at hv ⊢
    replace BB := Lib.hid (BB.out.trans (hb.mono BB.out.size))
    replace U := Lib.hid (U.out.below hb)
    have V := Lib.hid hv
    clear hv hb
    have XL := Lib.hid (bare_len M)
    rw [HMN.out] at XL
    have XB := Lib.hid (bare_bare M)
    obtain ⟨X0, hX⟩ : ∃ X, bare M = X := ⟨_, rfl⟩
    rw [hX] at U V XL XB
    clear hX
    go_upto_region 4 with fail
    have Z := Lib.hid (Box.new w3 #[.slice ua mn uc] 27 rfl)
    replace U := Lib.hid (U.out.below (below1 w3 (.cells #[.slice ua mn uc] 27)))
    replace V := Lib.hid (V.out.below (below1 w3 (.cells #[.slice ua mn uc] 27)))
    have HZ : Hid (w.heap.size ≤ w3.heap.size) := Lib.hid BB.out.size
    replace BB := Lib.hid (BB.out.alloc BB.out.size (.cells #[.slice ua mn uc] 27))
    generalize w3.alloc (.cells #[.slice ua mn uc] 27) = W4 at *
    generalize w3.heap.size = z at *
    go_wp2_with fail
    go_loopw [6, 26] (fun sv iv wr => ∃ k : Nat, ∃ X va vc ua uc, k ≤ n ∧ iv = .int .i64 k ∧ sv = .slice va mn vc ∧ WS wr (.slice va mn vc) X ∧ Box wr z #[.slice ua mn uc] 27 ∧ WS wr (.slice ua mn uc) X ∧ Bare X ∧ X.length = mn ∧ Below w.heap.size w wr) (fun _ iv _ => n - (intOf iv).toNat)
    case atStart => exact ⟨0, X0, va, vc, ua, uc, by omega, rfl, rfl, V.out, Z.out, U.out, XB.out, XL.out, BB.out⟩
    case round =>
      obtain ⟨k, X, va, vc, ua, uc, hk, rfl, rfl, hv, hz, hu, hxb, hxl, hb⟩ := hrel
      replace BB := Lib.hid hb
      replace V := Lib.hid hv
      replace Z := Lib.hid hz
      replace U := Lib.hid hu
      replace XB := Lib.hid hxb
      replace XL := Lib.hid hxl
      clear hb hv hz hu hxb hxl
      by_cases hlt : k < n
      · obtain ⟨b, off, rfl, hbl, hln, hc⟩ := HQ.out.addr hlt
        have c0 : wr.cell? ⟨b, off + k, none⟩ = some (.slice (Q[k]!).1 (Q[k]!).2.1 (Q[k]!).2.2) := by
          rw [BB.out.cell (p := ⟨b, _, none⟩) hbl]
          have := hc k (by rw [hln]; exact hlt) 0 _ rfl
          rw [show slE.k = 1 from rfl, Nat.mul_one, Nat.add_zero] at this
          exact this
        obtain ⟨L, hL, hOL⟩ := OK.out _ (mem_at (L := Q) (k := k) (by rw [HN.out]; exact hlt))
        have hsm := HS.out k hlt
        clear hc hln
        obtain ⟨x, hx⟩ : ∃ y, Q[k]! = y := ⟨_, rfl⟩
        rw [hx] at c0 hL hsm
        clear hx
        obtain ⟨xa, xn, xc⟩ := x
        simp only at c0 hL hsm
        have hLn : L.length = xn := by obtain ⟨a', c', e, _⟩ := hL; injection e with _ e _; exact e.symm
        have LL := Lib.hid hL
        have LN : Hid (L.length ≤ 1000) := Lib.hid (by omega)
        clear hL hLn hOL
        have C12 := Lib.hid (fun W (h1 : WS W (.slice ua mn uc) X) (h2 : ES W (.slice xa xn xc) L) => swap_any _ X _ L W h1 h2 LN.out (by rw [XL.out]; omega))
        have C13 := Lib.hid (fun W (h1 : WS W (.slice ua mn uc) X) (h2 : ES W (.slice xa xn xc) L) => holds_any _ X _ L W h1 h2 LN.out)
        have C14 := Lib.hid (fun W (h1 : WS W (.slice va mn vc) X) (h2 : ES W (.slice xa xn xc) L) => rholds_any _ X _ L W h1 h2 LN.out)
        have C15 := Lib.hid (fun W (h2 : ES W (.slice xa xn xc) L) => checkL_any _ L W h2 LN.out)
        have C16 := Lib.hid (fun W (h1 : WS W (.slice va mn vc) X) (h2 : ES W (.slice xa xn xc) L) => rhas_any _ X _ L W h1 h2 LN.out)
        have C17 := Lib.hid (fun W (h1 : WS W (.slice va mn vc) X) (h2 : ES W (.slice xa xn xc) L) (h3 : hasL X L = true) => rswap_any _ X _ L W h1 h2 LN.out (by rw [XL.out]; omega) h3)
        have hrh := holds_rholds X L XB.out
        rw [hrh] at C14
        have C17' := Lib.hid (fun W h1 h2 h3 => (hrh ▸ C17.out W h1 h2 h3 : Calls Try.prog 17 #[.slice va mn vc, .slice xa xn xc] W fun e w' => ∃ u, e = .returned (.tuple #[u, .bool (holds X L)]) ∧ WS w' u (if holds X L then upd X L else X) ∧ Below W.heap.size W w'))
        clear C17 hrh
        replace LL := Lib.hid (LL.out.below BB.out)
        have z0 := Z.out.cell 0
        simp at z0
        go_wp2_with fail
        refine (C12.out wr U.out LL.out).mono ?_
        rintro e w5 ⟨y, rfl, hy, hb⟩
        obtain ⟨ya, yc, rfl, _⟩ := hy.form
        have YL : (swp X L).1.length = mn := by rw [swp_len]; exact XL.out
        rw [YL] at hy ⊢
        have NX := Lib.hid hy
        replace Z := Lib.hid (Z.out.below hb)
        replace U := Lib.hid (U.out.below hb)
        replace V := Lib.hid (V.out.below hb)
        replace LL := Lib.hid (LL.out.below hb)
        replace BB := Lib.hid (BB.out.trans (hb.mono BB.out.size))
        clear hb hy z0 c0 YL C12
        go_upto_region 8 with fail
        have Y := Lib.hid (Box.new w5 #[.slice ya mn yc] 27 rfl)
        have hb := below1 w5 (.cells #[.slice ya mn yc] 27)
        replace Z := Lib.hid (Z.out.below hb)
        replace U := Lib.hid (U.out.below hb)
        replace V := Lib.hid (V.out.below hb)
        replace LL := Lib.hid (LL.out.below hb)
        replace NX := Lib.hid (NX.out.below hb)
        replace BB := Lib.hid (BB.out.trans (hb.mono BB.out.size))
        clear hb
        generalize w5.alloc (.cells #[.slice ya mn yc] 27) = W6 at *
        generalize w5.heap.size = p at *
        have z0 := Z.out.cell 0
        simp at z0
        go_wp2_with fail
        refine (C13.out W6 U.out LL.out).mono ?_
        rintro e w7 ⟨rfl, hb⟩
        replace Z := Lib.hid (Z.out.below hb)
        replace U := Lib.hid (U.out.below hb)
        replace V := Lib.hid (V.out.below hb)
        replace LL := Lib.hid (LL.out.below hb)
        replace Y := Lib.hid (Y.out.below hb)
        replace NX := Lib.hid (NX.out.below hb)
        replace BB := Lib.hid (BB.out.trans (hb.mono BB.out.size))
        clear hb z0 C13
        go_wp2_with fail
        refine (C14.out w7 V.out LL.out).mono ?_
        rintro e w8 ⟨rfl, hb⟩
        replace Z := Lib.hid (Z.out.below hb)
        replace U := Lib.hid (U.out.below hb)
        replace V := Lib.hid (V.out.below hb)
        replace LL := Lib.hid (LL.out.below hb)
        replace Y := Lib.hid (Y.out.below hb)
        replace NX := Lib.hid (NX.out.below hb)
        replace BB := Lib.hid (BB.out.trans (hb.mono BB.out.size))
        clear hb C14
        have hbb : (holds X L != holds X L) = false := by simp
        have SWP := Lib.hid (show swp X L = if chkM X L ≠ 0 then (X, false, chkM X L) else if holds X L then (upd X L, true, 0) else (X, false, 0) from rfl)
        have CM := Lib.hid (show chkM X L = if chkL L ≠ 0 then chkL L else if hasL X L then 0 else 1 from rfl)
        have HH := Lib.hid (C17'.out)
        clear C17'
        obtain ⟨hv, hhv⟩ : ∃ b, holds X L = b := ⟨_, rfl⟩
        rw [hhv] at SWP HH hbb ⊢
        clear hhv
        have C15b := C15
        obtain ⟨ck, hck⟩ : ∃ c, chkL L = c := ⟨_, rfl⟩
        rw [hck] at CM C15
        clear hck C15b
        go_wp2_with fail
        refine (C15.out w8 LL.out).mono ?_
        rintro e w9 ⟨rfl, hb⟩
        replace Z := Lib.hid (Z.out.below hb)
        replace U := Lib.hid (U.out.below hb)
        replace V := Lib.hid (V.out.below hb)
        replace LL := Lib.hid (LL.out.below hb)
        replace Y := Lib.hid (Y.out.below hb)
        replace NX := Lib.hid (NX.out.below hb)
        replace BB := Lib.hid (BB.out.trans (hb.mono BB.out.size))
        clear hb C15
        by_cases h0 : ck = 0
        · subst h0
          rw [if_neg (by simp)] at CM
          go_wp2_with fail
          refine (C16.out w9 V.out LL.out).mono ?_
          rintro e w10 ⟨rfl, hb⟩
          replace Z := Lib.hid (Z.out.below hb)
          replace U := Lib.hid (U.out.below hb)
          replace V := Lib.hid (V.out.below hb)
          replace LL := Lib.hid (LL.out.below hb)
          replace Y := Lib.hid (Y.out.below hb)
          replace NX := Lib.hid (NX.out.below hb)
          replace BB := Lib.hid (BB.out.trans (hb.mono BB.out.size))
          clear hb C16
          obtain ⟨hs, hhs⟩ : ∃ b, hasL X L = b := ⟨_, rfl⟩
          rw [hhs] at CM HH ⊢
          clear hhs
          cases hs with
          | false =>
            rw [if_neg (by simp)] at CM
            rw [CM.out, if_pos (by simp)] at SWP
            rw [SWP.out] at NX ⊢
            simp only at NX ⊢
            have z0 := Z.out.cell 0
            have y0 := Y.out.cell 0
            simp at z0 y0
            go_wp2_with fail
            refine (is_any _ X _ X _ NX.out V.out (by rw [XL.out]; omega)).mono ?_
            rintro e w20 ⟨rfl, hb⟩
            rw [decide_eq_true (Eq.refl X)]
            have WF2 := Lib.hid (V.out.below hb)
            replace Z := Lib.hid (Z.out.below hb)
            replace Y := Lib.hid (Y.out.below hb)
            replace U := Lib.hid (U.out.below hb)
            replace V := Lib.hid (V.out.below hb)
            replace NX := Lib.hid (NX.out.below hb)
            replace BB := Lib.hid (BB.out.trans (hb.mono BB.out.size))
            clear hb z0 y0
            have z0 := Z.out.cell 0
            simp at z0
            go_wp2_with fail
            refine (is_any _ X _ X _ U.out V.out (by rw [XL.out]; omega)).mono ?_
            rintro e w21 ⟨rfl, hb⟩
            rw [decide_eq_true (Eq.refl X)]
            replace Z := Lib.hid (Z.out.below hb)
            replace Y := Lib.hid (Y.out.below hb)
            replace NX := Lib.hid (NX.out.below hb)
            replace WF2 := Lib.hid (WF2.out.below hb)
            replace BB := Lib.hid (BB.out.trans (hb.mono BB.out.size))
            clear hb z0 U V
            have z0 := Z.out.cell 0
            have zf := Z.out.free 0
            have y0 := Y.out.cell 0
            simp at z0 y0
            have NX3 := Lib.hid (NX.out.other3 Z.out (.slice ya mn yc))
            have WF3 := Lib.hid (WF2.out.other3 Z.out (.slice ya mn yc))
            have Z3 := Lib.hid (Z.out.set 0 (.slice ya mn yc))
            have BB3 := Lib.hid (BB.out.setCell (p := ⟨z, 0, none⟩) HZ.out (.slice ya mn yc))
            go_wp2_with fail
            go_roundw
            case rel => exact ⟨k + 1, X, va, vc, ya, yc, by omega, by go_num, rfl, WF3.out, Z3.out, NX3.out, XB.out, XL.out, BB3.out⟩
            case measure => simp [intOf]; omega
          | true =>
            rw [if_pos rfl] at CM
            rw [CM.out, if_neg (by simp)] at SWP
            go_wp2_with fail
            refine (HH.out w10 V.out LL.out (by trivial)).mono ?_
            rintro e w11 ⟨wv, rfl, hw, hb⟩
            replace Z := Lib.hid (Z.out.below hb)
            replace U := Lib.hid (U.out.below hb)
            replace V := Lib.hid (V.out.below hb)
            replace LL := Lib.hid (LL.out.below hb)
            replace Y := Lib.hid (Y.out.below hb)
            replace NX := Lib.hid (NX.out.below hb)
            replace BB := Lib.hid (BB.out.trans (hb.mono BB.out.size))
            clear hb HH
            cases hv with
            | false =>
              rw [if_neg (by simp)] at SWP hw
              rw [SWP.out] at NX ⊢
              simp only at NX ⊢
              obtain ⟨wa, wc, rfl, _⟩ := hw.form
              rw [XL.out] at hw ⊢
              have WW := Lib.hid hw
              clear hw
              have z0 := Z.out.cell 0
              have y0 := Y.out.cell 0
              simp at z0 y0
              go_wp2_with fail
              refine (is_any _ X _ X _ NX.out WW.out (by rw [XL.out]; omega)).mono ?_
              rintro e w20 ⟨rfl, hb⟩
              rw [decide_eq_true (Eq.refl X)]
              have WF2 := Lib.hid (WW.out.below hb)
              replace Z := Lib.hid (Z.out.below hb)
              replace Y := Lib.hid (Y.out.below hb)
              replace U := Lib.hid (U.out.below hb)
              replace V := Lib.hid (V.out.below hb)
              replace NX := Lib.hid (NX.out.below hb)
              replace BB := Lib.hid (BB.out.trans (hb.mono BB.out.size))
              clear hb z0 y0
              have z0 := Z.out.cell 0
              simp at z0
              go_wp2_with fail
              refine (is_any _ X _ X _ U.out V.out (by rw [XL.out]; omega)).mono ?_
              rintro e w21 ⟨rfl, hb⟩
              rw [decide_eq_true (Eq.refl X)]
              replace Z := Lib.hid (Z.out.below hb)
              replace Y := Lib.hid (Y.out.below hb)
              replace NX := Lib.hid (NX.out.below hb)
              replace WF2 := Lib.hid (WF2.out.below hb)
              replace BB := Lib.hid (BB.out.trans (hb.mono BB.out.size))
              clear hb z0 U V
              have z0 := Z.out.cell 0
              have zf := Z.out.free 0
              have y0 := Y.out.cell 0
              simp at z0 y0
              have NX3 := Lib.hid (NX.out.other3 Z.out (.slice ya mn yc))
              have WF3 := Lib.hid (WF2.out.other3 Z.out (.slice ya mn yc))
              have Z3 := Lib.hid (Z.out.set 0 (.slice ya mn yc))
              have BB3 := Lib.hid (BB.out.setCell (p := ⟨z, 0, none⟩) HZ.out (.slice ya mn yc))
              go_wp2_with fail
              go_roundw
              case rel => exact ⟨k + 1, X, wa, wc, ya, yc, by omega, by go_num, rfl, WF3.out, Z3.out, NX3.out, XB.out, XL.out, BB3.out⟩
              case measure => simp [intOf]; omega
            | true =>
              rw [if_pos rfl] at SWP hw
              rw [SWP.out] at NX ⊢
              simp only at NX ⊢
              obtain ⟨wa, wc, rfl, _⟩ := hw.form
              rw [upd_len, XL.out] at hw ⊢
              have WW := Lib.hid hw
              clear hw
              have z0 := Z.out.cell 0
              have y0 := Y.out.cell 0
              simp at z0 y0
              go_wp2_with fail
              refine (is_any _ (upd X L) _ (upd X L) _ NX.out WW.out (by rw [upd_len, XL.out]; omega)).mono ?_
              rintro e w20 ⟨rfl, hb⟩
              rw [decide_eq_true (Eq.refl (upd X L))]
              have WF2 := Lib.hid (WW.out.below hb)
              replace Z := Lib.hid (Z.out.below hb)
              replace Y := Lib.hid (Y.out.below hb)
              replace U := Lib.hid (U.out.below hb)
              replace V := Lib.hid (V.out.below hb)
              replace NX := Lib.hid (NX.out.below hb)
              replace BB := Lib.hid (BB.out.trans (hb.mono BB.out.size))
              clear hb z0 y0
              have z0 := Z.out.cell 0
              simp at z0
              go_wp2_with fail
              refine (is_any _ X _ X _ U.out V.out (by rw [XL.out]; omega)).mono ?_
              rintro e w21 ⟨rfl, hb⟩
              rw [decide_eq_true (Eq.refl X)]
              replace Z := Lib.hid (Z.out.below hb)
              replace Y := Lib.hid (Y.out.below hb)
              replace NX := Lib.hid (NX.out.below hb)
              replace WF2 := Lib.hid (WF2.out.below hb)
              replace BB := Lib.hid (BB.out.trans (hb.mono BB.out.size))
              clear hb z0 U V
              have z0 := Z.out.cell 0
              have zf := Z.out.free 0
              have y0 := Y.out.cell 0
              simp at z0 y0
              have NX3 := Lib.hid (NX.out.other3 Z.out (.slice ya mn yc))
              have WF3 := Lib.hid (WF2.out.other3 Z.out (.slice ya mn yc))
              have Z3 := Lib.hid (Z.out.set 0 (.slice ya mn yc))
              have BB3 := Lib.hid (BB.out.setCell (p := ⟨z, 0, none⟩) HZ.out (.slice ya mn yc))
              go_wp2_with fail
              go_roundw
              case rel => exact ⟨k + 1, (upd X L), wa, wc, ya, yc, by omega, by go_num, rfl, WF3.out, Z3.out, NX3.out, upd_bare X L XB.out, by rw [upd_len]; exact XL.out, BB3.out⟩
              case measure => simp [intOf]; omega
        · have h0' : (ck == 0) = false := by rw [beq_eq_false_iff_ne]; exact h0
          have hcc : (ck != ck) = false := by simp
          rw [if_pos h0] at CM
          rw [CM.out, if_pos h0] at SWP
          rw [SWP.out] at NX ⊢
          simp only at NX ⊢
          have z0 := Z.out.cell 0
          have y0 := Y.out.cell 0
          simp at z0 y0
          go_wp2_with fail
          refine (is_any _ X _ X _ NX.out V.out (by rw [XL.out]; omega)).mono ?_
          rintro e w20 ⟨rfl, hb⟩
          rw [decide_eq_true (Eq.refl X)]
          have WF2 := Lib.hid (V.out.below hb)
          replace Z := Lib.hid (Z.out.below hb)
          replace Y := Lib.hid (Y.out.below hb)
          replace U := Lib.hid (U.out.below hb)
          replace V := Lib.hid (V.out.below hb)
          replace NX := Lib.hid (NX.out.below hb)
          replace BB := Lib.hid (BB.out.trans (hb.mono BB.out.size))
          clear hb z0 y0
          have z0 := Z.out.cell 0
          simp at z0
          go_wp2_with fail
          refine (is_any _ X _ X _ U.out V.out (by rw [XL.out]; omega)).mono ?_
          rintro e w21 ⟨rfl, hb⟩
          rw [decide_eq_true (Eq.refl X)]
          replace Z := Lib.hid (Z.out.below hb)
          replace Y := Lib.hid (Y.out.below hb)
          replace NX := Lib.hid (NX.out.below hb)
          replace WF2 := Lib.hid (WF2.out.below hb)
          replace BB := Lib.hid (BB.out.trans (hb.mono BB.out.size))
          clear hb z0 U V
          have z0 := Z.out.cell 0
          have zf := Z.out.free 0
          have y0 := Y.out.cell 0
          simp at z0 y0
          have NX3 := Lib.hid (NX.out.other3 Z.out (.slice ya mn yc))
          have WF3 := Lib.hid (WF2.out.other3 Z.out (.slice ya mn yc))
          have Z3 := Lib.hid (Z.out.set 0 (.slice ya mn yc))
          have BB3 := Lib.hid (BB.out.setCell (p := ⟨z, 0, none⟩) HZ.out (.slice ya mn yc))
          go_wp2_with fail
          go_roundw
          case rel => exact ⟨k + 1, X, va, vc, ya, yc, by omega, by go_num, rfl, WF3.out, Z3.out, NX3.out, XB.out, XL.out, BB3.out⟩
          case measure => simp [intOf]; omega
      · obtain rfl : k = n := by omega
        go_wp2_with fail
        refine (awake_any _).mono ?_
        rintro e w9 ⟨rfl, hb⟩
        replace BB := Lib.hid (BB.out.trans (hb.mono BB.out.size))
        clear hb
        go_wp2_with fail
        go_ret
        exact ⟨rfl, BB.out⟩
end Go.Proofs.Ytmophafgmimhcaa
