/- desc.Read. -/
import Derived.Test.YtfegeahieajmkaaDoorDsDec
import Derived.Deep.DeepCutAuto
namespace Go.Proofs.YtfegeahieajmkaaDoor
open Go.ChangeShapes Go.WideShapes Go.ChangeAt Go.RowKit Go.Maps
open Lay (startL checkI placeI mayI sizeI Ok starts checkI_ok)
theorem rdE_short {T C B : Nat} (h : Ok T C B) {M : List Wd} {who : Int} (hl : M.length < startL T C B 7) : rdE T C B M who = 1 := by
  unfold rdE
  rw [if_pos]
  right
  unfold sizeI
  rw [checkI_ok h, if_pos rfl]
  simp only [Int.toNat_natCast]
  omega
theorem rdE_long {T C B : Nat} (h : Ok T C B) {M : List Wd} {who : Int} (hl : startL T C B 7 ≤ M.length) : rdE T C B M who = if (placeI T C B who).1 < 0 then 3 else if rdB T C B (M.drop (placeI T C B who).1.toNat) who = true then 0 else 5 := by
  unfold rdE
  rw [if_neg]
  unfold sizeI
  rw [checkI_ok h, if_pos rfl]
  simp only [Int.toNat_natCast]
  omega
theorem SK.otherSet {α : Type} [Inhabited α] {E : Enc α} {w : World} {v : Value} {L : List α} (h : SK E w v L) {c : Nat} {cs : Array Value} {t : TypeId} (hx : Box w c cs t) (hs : cs.size < E.k) (j : Nat) (u : Value) : SK E (w.setCell ⟨c, j, none⟩ u) v L := by
  obtain ⟨a, cap, hv, hcap, h | ⟨b, off, ha, hl, hc⟩⟩ := h
  · exact ⟨a, cap, hv, hcap, .inl h⟩
  rcases Nat.eq_zero_or_pos L.length with h0 | h0
  · exact ⟨a, cap, hv, hcap, .inl (List.length_eq_zero_iff.1 h0)⟩
  have hne : b ≠ c := by
    rintro rfl
    have hk := E.pos
    have hu := List.getElem?_eq_getElem (l := E.enc L[0]!) (i := E.k - 1) (by rw [E.len]; omega)
    have := hc 0 h0 (E.k - 1) _ hu
    rw [hx.cell, Array.getElem?_eq_none (by omega)] at this
    cases this
  refine ⟨a, cap, hv, hcap, .inr ⟨b, off, ha, by simpa using hl, fun i hi k x hk => ?_⟩⟩
  have := hc i hi k x hk
  unfold World.cell? at *
  rw [Below.heap_setCell _ _ _ _ (by simpa using hne)]
  exact this
/-- What Read answers. -/
def ReadOut (T C B : Nat) (M : List Wd) (who : Int) (w : World) (e : Ending) (w' : World) : Prop :=
  (∃ u, e = .returned (.tuple #[dV (rdD T C B M who).1 (rdD T C B M who).2.1 (rdD T C B M who).2.2.1 u, .int .i64 (rdE T C B M who)]) ∧ ES w' u (rdD T C B M who).2.2.2) ∧ Below w.heap.size w w'
theorem ReadOut.no {T C B : Nat} {M : List Wd} {who x : Int} {w w' : World} (h : rdE T C B M who = x) (hx : x ≠ 0) (hb : Below w.heap.size w w') : ReadOut T C B M who w (.returned (.tuple #[.agg #[.int .i64 0, .int .i64 0, .int .i64 0, .slice none 0 0], .int .i64 x])) w' := by
  have e : rdD T C B M who = zD := by unfold rdD; rw [if_neg (by rw [h]; exact hx)]
  unfold ReadOut
  rw [h, e]
  exact ⟨⟨_, rfl, SK.nil _ _ _⟩, hb⟩
theorem ReadOut.yes {T C B : Nat} {M N : List Wd} {who x0 x1 x2 y0 y1 y2 : Int} {w w' : World} {u : Value} (h : rdE T C B M who = 0) (hN : M.drop (placeI T C B who).1.toNat = N) (hx : N[0]! = (x0, x1, x2)) (hy : N[1]! = (y0, y1, y2)) (he : ES w' u (entsA N y0.toNat)) (hb : Below w.heap.size w w') : ReadOut T C B M who w (.returned (.tuple #[.agg #[.int .i64 who, .int .i64 x1, .int .i64 x0, u], .int .i64 0])) w' := by
  have e : rdD T C B M who = (who, x1, x0, entsA N y0.toNat) := by unfold rdD; rw [if_pos h, hN]; unfold descA; rw [hx, hy]
  unfold ReadOut
  rw [h, e]
  exact ⟨⟨_, rfl, he⟩, hb⟩
set_option maxRecDepth 100000 in
set_option maxHeartbeats 6400000 in
theorem read_any (T C B : Nat) (v : Value) (M : List Wd) (who : Int) (w : World) (hg : Lay.Gl w) (hok : Ok T C B) (hv : WS w v M) (hk : M.length ≤ 5000) (ho : ∀ x ∈ M, OkW x) (hw : who < 9223372036854775808) : Calls Tryd.prog 22 #[.agg #[.int .i64 T, .int .i64 C, .int .i64 B], v, .int .i64 who] w (ReadOut T C B M who w) := by
  have HG := Lib.hid hg
  have HV := Lib.hid hv
  have HO := Lib.hid ho
  have OK := Lib.hid hok
  have PL := Lib.hid (fun W h => Lay.place_any T C B who W h hw)
  have CK := Lib.hid (fun W h => Lay.check_any T C B W h)
  have SZ := Lib.hid (fun W h => Lay.size_any T C B W h)
  have PR := Lib.hid (place_room hok who)
  rw [checkI_ok hok] at CK
  rw [show sizeI T C B = (startL T C B 7 : Int) by unfold sizeI; rw [checkI_ok hok, if_pos rfl]; simp] at SZ
  unfold Lay.LV at PL CK SZ
  obtain ⟨a1, cp, rfl, hcap⟩ := hv.form
  obtain ⟨n, hn⟩ : ∃ n, M.length = n := ⟨_, rfl⟩
  have HN := Lib.hid hn
  rw [hn] at HV hcap hk ⊢
  have RS := Lib.hid (fun h => rdE_short hok (M := M) (who := who) h)
  have RL := Lib.hid (fun h => rdE_long hok (M := M) (who := who) h)
  rw [hn] at RS RL
  obtain ⟨sz, hsz⟩ : ∃ x, startL T C B 7 = x := ⟨_, rfl⟩
  have hs5 : sz ≤ 5200 := by rw [← hsz]; exact Lay.startL_le T C B hok.1 7 (by omega)
  rw [hsz] at SZ RS RL PR
  obtain ⟨pa, hpa⟩ : ∃ x, (placeI T C B who).1 = x := ⟨_, rfl⟩
  obtain ⟨pm, hpm⟩ : ∃ x, (placeI T C B who).2 = x := ⟨_, rfl⟩
  have HPA := Lib.hid hpa
  have HPM := Lib.hid hpm
  rw [hpa, hpm] at PL
  rw [hpa] at RL
  clear hv hn hg ho hok hsz hpa hpm
  go_enter Tryd.func22, Tryd.ntmps22
  go_upto_region 1 with fail
  have B1 := Lib.hid (below1 w (.cells #[.int .i64 T, .int .i64 C, .int .i64 B] 29))
  have B2 := Lib.hid (below1 (w.alloc (.cells #[.int .i64 T, .int .i64 C, .int .i64 B] 29)) (.cells #[.int .i64 0, .int .i64 0, .int .i64 0, .slice none 0 0] 25))
  have BB := Lib.hid (B1.out.trans (B2.out.mono B1.out.size))
  have LB := Lib.hid ((Box.new w #[.int .i64 T, .int .i64 C, .int .i64 B] 29 rfl).below B2.out)
  have RB := Lib.hid (Box.new (w.alloc (.cells #[.int .i64 T, .int .i64 C, .int .i64 B] 29)) #[.int .i64 0, .int .i64 0, .int .i64 0, .slice none 0 0] 25 (n := w.heap.size + 1) (by simp))
  replace HG := Lib.hid (HG.out.below BB.out)
  obtain ⟨W, hW⟩ : ∃ W, ((w.alloc (.cells #[.int .i64 T, .int .i64 C, .int .i64 B] 29)).alloc (.cells #[.int .i64 0, .int .i64 0, .int .i64 0, .slice none 0 0] 25)) = W := ⟨_, rfl⟩
  obtain ⟨q, hq⟩ : ∃ q, w.heap.size = q := ⟨_, rfl⟩
  have HQ := Lib.hid hq
  rw [hW] at BB LB RB HG
  rw [hq] at LB RB
  rw [hW, hq]
  clear hW hq B1 B2
  have x0 := LB.out.cell 0
  have x1 := LB.out.cell 1
  have x2 := LB.out.cell 2
  simp at x0 x1 x2
  go_wp2_with fail
  refine (PL.out _ HG.out).mono ?_
  rintro e w1 ⟨rfl, hb⟩
  replace LB := Lib.hid (LB.out.below hb)
  replace RB := Lib.hid (RB.out.below hb)
  replace HG := Lib.hid (HG.out.below hb)
  replace BB := Lib.hid (BB.out.trans (hb.mono BB.out.size))
  clear hb x0 x1 x2
  have x0 := LB.out.cell 0
  have x1 := LB.out.cell 1
  have x2 := LB.out.cell 2
  simp at x0 x1 x2
  go_wp2_with fail
  refine (CK.out _ HG.out).mono ?_
  rintro e w2 ⟨rfl, hb⟩
  replace LB := Lib.hid (LB.out.below hb)
  replace RB := Lib.hid (RB.out.below hb)
  replace HG := Lib.hid (HG.out.below hb)
  replace BB := Lib.hid (BB.out.trans (hb.mono BB.out.size))
  clear hb x0 x1 x2
  have x0 := LB.out.cell 0
  have x1 := LB.out.cell 1
  have x2 := LB.out.cell 2
  simp at x0 x1 x2
  go_wp2_with fail
  refine (SZ.out _ HG.out).mono ?_
  rintro e w3 ⟨rfl, hb⟩
  replace LB := Lib.hid (LB.out.below hb)
  replace RB := Lib.hid (RB.out.below hb)
  replace HG := Lib.hid (HG.out.below hb)
  replace BB := Lib.hid (BB.out.trans (hb.mono BB.out.size))
  clear hb x0 x1 x2 PL CK SZ
  have x0 := LB.out.cell 0
  have x1 := LB.out.cell 1
  have x2 := LB.out.cell 2
  simp at x0 x1 x2
  have k0 := RB.out.cell 0
  have k1 := RB.out.cell 1
  have k2 := RB.out.cell 2
  have k3 := RB.out.cell 3
  simp at k0 k1 k2 k3
  have f0 := RB.out.free 0
  have f1 := RB.out.free 1
  have f2 := RB.out.free 2
  have f3 := RB.out.free 3
  have l0 := RB.out.lt
  by_cases hsh : n < sz
  · have hsh' : (n : Int) < (sz : Int) := by omega
    go_wp2_with fail
    clear k0 k1 k2 k3 f0 f1 f2 f3 l0
    replace RB : Hid (Box ((((w3.setCell ⟨q + 1, 0, none⟩ (.int .i64 0)).setCell ⟨q + 1, 1, none⟩ (.int .i64 0)).setCell ⟨q + 1, 2, none⟩ (.int .i64 0)).setCell ⟨q + 1, 3, none⟩ (.slice none 0 0)) (q + 1) #[.int .i64 0, .int .i64 0, .int .i64 0, .slice none 0 0] 25) := Lib.hid ((((RB.out.set 0 _).set 1 _).set 2 _).set 3 _)
    replace BB : Hid (Below w.heap.size w ((((w3.setCell ⟨q + 1, 0, none⟩ (.int .i64 0)).setCell ⟨q + 1, 1, none⟩ (.int .i64 0)).setCell ⟨q + 1, 2, none⟩ (.int .i64 0)).setCell ⟨q + 1, 3, none⟩ (.slice none 0 0))) := Lib.hid ((((BB.out.setCell (show w.heap.size ≤ q + 1 by have := HQ.out; omega) _).setCell (show w.heap.size ≤ q + 1 by have := HQ.out; omega) _).setCell (show w.heap.size ≤ q + 1 by have := HQ.out; omega) _).setCell (show w.heap.size ≤ q + 1 by have := HQ.out; omega) _)
    generalize ((((w3.setCell ⟨q + 1, 0, none⟩ (.int .i64 0)).setCell ⟨q + 1, 1, none⟩ (.int .i64 0)).setCell ⟨q + 1, 2, none⟩ (.int .i64 0)).setCell ⟨q + 1, 3, none⟩ (.slice none 0 0)) = W7 at *
    have k0 := RB.out.cell 0
    have k1 := RB.out.cell 1
    have k2 := RB.out.cell 2
    have k3 := RB.out.cell 3
    simp at k0 k1 k2 k3
    exact bodyPost_ret (v := .tuple #[.agg #[.int .i64 0, .int .i64 0, .int .i64 0, .slice none 0 0], .int .i64 1]) (by simp [results, Tryd.f22, go_sem, k0, k1, k2, k3]) rfl (ReadOut.no (RS.out hsh) (by decide) BB.out)
  have hsh' : ¬ (n : Int) < (sz : Int) := by omega
  have RL2 := Lib.hid (RL.out (by omega))
  clear RL RS
  rcases PR.out with hp | ⟨a, m, hp, hm, hroom, -⟩
  · have e1 : pa = -1 := by rw [← HPA.out, hp]
    subst e1
    rw [if_pos (by omega)] at RL2
    clear hp PR
    go_wp2_with fail
    clear k0 k1 k2 k3 f0 f1 f2 f3 l0
    replace RB : Hid (Box ((((w3.setCell ⟨q + 1, 0, none⟩ (.int .i64 0)).setCell ⟨q + 1, 1, none⟩ (.int .i64 0)).setCell ⟨q + 1, 2, none⟩ (.int .i64 0)).setCell ⟨q + 1, 3, none⟩ (.slice none 0 0)) (q + 1) #[.int .i64 0, .int .i64 0, .int .i64 0, .slice none 0 0] 25) := Lib.hid ((((RB.out.set 0 _).set 1 _).set 2 _).set 3 _)
    replace BB : Hid (Below w.heap.size w ((((w3.setCell ⟨q + 1, 0, none⟩ (.int .i64 0)).setCell ⟨q + 1, 1, none⟩ (.int .i64 0)).setCell ⟨q + 1, 2, none⟩ (.int .i64 0)).setCell ⟨q + 1, 3, none⟩ (.slice none 0 0))) := Lib.hid ((((BB.out.setCell (show w.heap.size ≤ q + 1 by have := HQ.out; omega) _).setCell (show w.heap.size ≤ q + 1 by have := HQ.out; omega) _).setCell (show w.heap.size ≤ q + 1 by have := HQ.out; omega) _).setCell (show w.heap.size ≤ q + 1 by have := HQ.out; omega) _)
    generalize ((((w3.setCell ⟨q + 1, 0, none⟩ (.int .i64 0)).setCell ⟨q + 1, 1, none⟩ (.int .i64 0)).setCell ⟨q + 1, 2, none⟩ (.int .i64 0)).setCell ⟨q + 1, 3, none⟩ (.slice none 0 0)) = W7 at *
    have k0 := RB.out.cell 0
    have k1 := RB.out.cell 1
    have k2 := RB.out.cell 2
    have k3 := RB.out.cell 3
    simp at k0 k1 k2 k3
    exact bodyPost_ret (v := .tuple #[.agg #[.int .i64 0, .int .i64 0, .int .i64 0, .slice none 0 0], .int .i64 3]) (by simp [results, Tryd.f22, go_sem, k0, k1, k2, k3]) rfl (ReadOut.no (RL2.out) (by decide) BB.out)
  have e1 : pa = (a : Int) := by rw [← HPA.out, hp]
  have e2 : pm = (m : Int) := by rw [← HPM.out, hp]
  subst e1 e2
  clear hp PR
  rw [if_neg (by omega), Int.toNat_natCast] at RL2
  unfold rdB at RL2
  rw [HPM.out] at RL2
  have hm32 : m ≤ 32 := by rcases hm with rfl | rfl <;> omega
  have hm2 : 2 ≤ m := by rcases hm with rfl | rfl <;> omega
  clear hm
  have q0 : a + 2 + 3 * m ≤ n := by omega
  obtain ⟨b, off, rfl, hbl, hln, -⟩ := HV.out.addr (k := a) (by omega)
  clear hbl hln
  have P0 := Lib.hid (HV.out.part a n (cp - a) (by omega) (Nat.le_refl _) (by omega))
  rw [List.take_of_length_le (by rw [HN.out]; exact Nat.le_refl _)] at P0
  have PT := Lib.hid (fun k hk => show SK wdE w (.slice (some ⟨b, off + a * 3, none⟩) k (cp - a)) ((M.take (a + k)).drop a) from by have := HV.out.part a (a + k) (cp - a) (by omega) hk (by omega); rwa [Nat.add_sub_cancel_left] at this)
  have DD := Lib.hid (fun k => show (M.take (a + k)).drop a = (M.drop a).take k by rw [List.drop_take, Nat.add_sub_cancel_left])
  have OW := Lib.hid (show ∀ x ∈ M.drop a, OkW x from fun x hx => HO.out x (List.mem_of_mem_drop hx))
  have LN := Lib.hid (show (M.drop a).length = n - a by rw [List.length_drop, HN.out])
  obtain ⟨N, hN⟩ : ∃ N, M.drop a = N := ⟨_, rfl⟩
  have HNN := Lib.hid hN
  rw [hN] at P0 DD OW LN RL2
  clear hN HO HV
  have DC := Lib.hid (fun W (h : Below w.heap.size w W) => decode_any _ N who m W (P0.out.below h) hm32 (by rw [LN.out]; omega) (by rw [LN.out]; omega) OW.out)
  simp only [show wdE.k = 3 from rfl] at DC
  go_wp2_with fail
  clear k0 k1 k2 k3 f0 f1 f2 f3 l0
  refine (DC.out _ BB.out).mono ?_
  rintro e w4 ⟨⟨hz, rfl⟩ | ⟨hz, u0, rfl, h4⟩, hb⟩
  · replace LB := Lib.hid (LB.out.below hb)
    replace RB := Lib.hid (RB.out.below hb)
    replace HG := Lib.hid (HG.out.below hb)
    replace BB := Lib.hid (BB.out.trans (hb.mono BB.out.size))
    clear hb x0 x1 x2 DC
    rw [hz] at RL2
    rw [Bool.false_and, if_neg (by decide)] at RL2
    clear hz
    go_upto_region 7 with fail
    replace BB := Lib.hid (BB.out.alloc BB.out.size (.cells #[.int .i64 0, .int .i64 0, .int .i64 0, .slice none 0 0] 25))
    replace RB := Lib.hid (RB.out.alloc (.cells #[.int .i64 0, .int .i64 0, .int .i64 0, .slice none 0 0] 25))
    generalize w4.alloc (.cells #[.int .i64 0, .int .i64 0, .int .i64 0, .slice none 0 0] 25) = W6 at *
    have k0 := RB.out.cell 0
    have k1 := RB.out.cell 1
    have k2 := RB.out.cell 2
    have k3 := RB.out.cell 3
    simp at k0 k1 k2 k3
    have f0 := RB.out.free 0
    have f1 := RB.out.free 1
    have f2 := RB.out.free 2
    have f3 := RB.out.free 3
    have l0 := RB.out.lt
    go_wp2_with fail
    clear k0 k1 k2 k3 f0 f1 f2 f3 l0
    replace RB : Hid (Box ((((W6.setCell ⟨q + 1, 0, none⟩ (.int .i64 0)).setCell ⟨q + 1, 1, none⟩ (.int .i64 0)).setCell ⟨q + 1, 2, none⟩ (.int .i64 0)).setCell ⟨q + 1, 3, none⟩ (.slice none 0 0)) (q + 1) #[.int .i64 0, .int .i64 0, .int .i64 0, .slice none 0 0] 25) := Lib.hid ((((RB.out.set 0 _).set 1 _).set 2 _).set 3 _)
    replace BB : Hid (Below w.heap.size w ((((W6.setCell ⟨q + 1, 0, none⟩ (.int .i64 0)).setCell ⟨q + 1, 1, none⟩ (.int .i64 0)).setCell ⟨q + 1, 2, none⟩ (.int .i64 0)).setCell ⟨q + 1, 3, none⟩ (.slice none 0 0))) := Lib.hid ((((BB.out.setCell (show w.heap.size ≤ q + 1 by have := HQ.out; omega) _).setCell (show w.heap.size ≤ q + 1 by have := HQ.out; omega) _).setCell (show w.heap.size ≤ q + 1 by have := HQ.out; omega) _).setCell (show w.heap.size ≤ q + 1 by have := HQ.out; omega) _)
    generalize ((((W6.setCell ⟨q + 1, 0, none⟩ (.int .i64 0)).setCell ⟨q + 1, 1, none⟩ (.int .i64 0)).setCell ⟨q + 1, 2, none⟩ (.int .i64 0)).setCell ⟨q + 1, 3, none⟩ (.slice none 0 0)) = W7 at *
    have k0 := RB.out.cell 0
    have k1 := RB.out.cell 1
    have k2 := RB.out.cell 2
    have k3 := RB.out.cell 3
    simp at k0 k1 k2 k3
    exact bodyPost_ret (v := .tuple #[.agg #[.int .i64 0, .int .i64 0, .int .i64 0, .slice none 0 0], .int .i64 5]) (by simp [results, Tryd.f22, go_sem, k0, k1, k2, k3]) rfl (ReadOut.no (RL2.out) (by decide) BB.out)
  · replace LB := Lib.hid (LB.out.below hb)
    replace RB := Lib.hid (RB.out.below hb)
    replace HG := Lib.hid (HG.out.below hb)
    replace BB := Lib.hid (BB.out.trans (hb.mono BB.out.size))
    clear hb x0 x1 x2 DC
    rw [hz] at RL2
    rw [Bool.true_and] at RL2
    have hcount : 1 ≤ N[1]!.1 ∧ N[1]!.1 ≤ m := by
      unfold decB at hz
      rw [Bool.and_eq_true] at hz
      exact of_decide_eq_true hz.1
    clear hz
    have EV := Lib.hid h4
    clear h4
    have RZ := Lib.hid (fun u w' hz hs hb => ReadOut.yes (w := w) (w' := w') (T := T) (C := C) (B := B) (M := M) (N := N) (who := who) (u := u) (x0 := N[0]!.1) (x1 := N[0]!.2.1) (x2 := N[0]!.2.2) (y0 := N[1]!.1) (y1 := N[1]!.2.1) (y2 := N[1]!.2.2) hz (by rw [HPA.out, Int.toNat_natCast]; exact HNN.out) rfl rfl hs hb)
    unfold descA at RL2
    obtain ⟨b0, hb0⟩ : ∃ x, N[0]!.2.1 = x := ⟨_, rfl⟩
    obtain ⟨c0, hc0⟩ : ∃ x, N[0]!.1 = x := ⟨_, rfl⟩
    obtain ⟨kk, hkk⟩ : ∃ k : Nat, N[1]!.1 = k := ⟨N[1]!.1.toNat, by omega⟩
    rw [hb0, hc0, hkk] at RZ RL2
    rw [hkk] at EV hcount
    rw [hb0, hc0]
    simp only [Int.toNat_natCast] at EV RZ RL2
    have EL := Lib.hid (entsA_len N kk)
    obtain ⟨L, hL⟩ : ∃ L, entsA N kk = L := ⟨_, rfl⟩
    rw [hL] at EL EV RZ
    simp only [hL] at RL2
    have hkm : kk ≤ m := by omega
    clear hL hb0 hc0 hkk hcount
    obtain ⟨ua, uc, rfl, _⟩ := EV.out.form
    have WN := Lib.hid (fun W h h' hd => words_no T C B who b0 c0 _ L W h (EV.out.below h') (by rw [EL.out]; omega) hw hd)
    have WO := Lib.hid (fun W h h' hd => words_ok T C B who b0 c0 _ L W h (EV.out.below h') (by rw [EL.out]; omega) hw hd)
    have WL := Lib.hid (wordsD_len (who, b0, c0, L))
    simp only at WL
    rw [EL.out] at EV WN WO WL ⊢
    obtain ⟨ch, hch⟩ : ∃ x, chkD T C B (who, b0, c0, L) = x := ⟨_, rfl⟩
    rw [hch] at WN WO
    simp only [hch] at RL2
    clear hch
    go_upto_region 9 with fail
    have DB := Lib.hid (Box.new w4 #[.int .i64 who, .int .i64 b0, .int .i64 c0, .slice ua kk uc] 25 rfl)
    have B5 := Lib.hid (below1 w4 (.cells #[.int .i64 who, .int .i64 b0, .int .i64 c0, .slice ua kk uc] 25))
    replace LB := Lib.hid (LB.out.below B5.out)
    replace RB := Lib.hid (RB.out.below B5.out)
    replace HG := Lib.hid (HG.out.below B5.out)
    replace BB := Lib.hid (BB.out.trans (B5.out.mono BB.out.size))
    replace EV := Lib.hid (EV.out.below B5.out)
    generalize w4.alloc (.cells #[.int .i64 who, .int .i64 b0, .int .i64 c0, .slice ua kk uc] 25) = W6 at *
    generalize w4.heap.size = p at *
    have x0 := LB.out.cell 0
    have x1 := LB.out.cell 1
    have x2 := LB.out.cell 2
    simp at x0 x1 x2
    have y0 := DB.out.cell 0
    have y1 := DB.out.cell 1
    have y2 := DB.out.cell 2
    have y3 := DB.out.cell 3
    simp at y0 y1 y2 y3
    by_cases hc : ch = 0
    case neg =>
      have hc' : (ch != 0) = true := by rw [bne_iff_ne]; exact hc
      rw [decide_eq_false hc, Bool.false_and, if_neg (by decide)] at RL2
      go_wp2_with fail
      refine (WN.out _ HG.out B5.out hc).mono ?_
      rintro e w5 ⟨rfl, hb⟩
      replace LB := Lib.hid (LB.out.below hb)
      replace RB := Lib.hid (RB.out.below hb)
      replace HG := Lib.hid (HG.out.below hb)
      replace BB := Lib.hid (BB.out.trans (hb.mono BB.out.size))
      clear hb x0 x1 x2 y0 y1 y2 y3
      have k0 := RB.out.cell 0
      have k1 := RB.out.cell 1
      have k2 := RB.out.cell 2
      have k3 := RB.out.cell 3
      simp at k0 k1 k2 k3
      have f0 := RB.out.free 0
      have f1 := RB.out.free 1
      have f2 := RB.out.free 2
      have f3 := RB.out.free 3
      have l0 := RB.out.lt
      go_wp2_with fail
      clear k0 k1 k2 k3 f0 f1 f2 f3 l0
      replace RB : Hid (Box ((((w5.setCell ⟨q + 1, 0, none⟩ (.int .i64 0)).setCell ⟨q + 1, 1, none⟩ (.int .i64 0)).setCell ⟨q + 1, 2, none⟩ (.int .i64 0)).setCell ⟨q + 1, 3, none⟩ (.slice none 0 0)) (q + 1) #[.int .i64 0, .int .i64 0, .int .i64 0, .slice none 0 0] 25) := Lib.hid ((((RB.out.set 0 _).set 1 _).set 2 _).set 3 _)
      replace BB : Hid (Below w.heap.size w ((((w5.setCell ⟨q + 1, 0, none⟩ (.int .i64 0)).setCell ⟨q + 1, 1, none⟩ (.int .i64 0)).setCell ⟨q + 1, 2, none⟩ (.int .i64 0)).setCell ⟨q + 1, 3, none⟩ (.slice none 0 0))) := Lib.hid ((((BB.out.setCell (show w.heap.size ≤ q + 1 by have := HQ.out; omega) _).setCell (show w.heap.size ≤ q + 1 by have := HQ.out; omega) _).setCell (show w.heap.size ≤ q + 1 by have := HQ.out; omega) _).setCell (show w.heap.size ≤ q + 1 by have := HQ.out; omega) _)
      generalize ((((w5.setCell ⟨q + 1, 0, none⟩ (.int .i64 0)).setCell ⟨q + 1, 1, none⟩ (.int .i64 0)).setCell ⟨q + 1, 2, none⟩ (.int .i64 0)).setCell ⟨q + 1, 3, none⟩ (.slice none 0 0)) = W7 at *
      have k0 := RB.out.cell 0
      have k1 := RB.out.cell 1
      have k2 := RB.out.cell 2
      have k3 := RB.out.cell 3
      simp at k0 k1 k2 k3
      exact bodyPost_ret (v := .tuple #[.agg #[.int .i64 0, .int .i64 0, .int .i64 0, .slice none 0 0], .int .i64 5]) (by simp [results, Tryd.f22, go_sem, k0, k1, k2, k3]) rfl (ReadOut.no (RL2.out) (by decide) BB.out)
    subst hc
    rw [decide_eq_true rfl, Bool.true_and] at RL2
    go_wp2_with fail
    refine (WO.out _ HG.out B5.out trivial).mono ?_
    rintro e w5 ⟨wv, rfl, hr, hb⟩
    replace DB := Lib.hid (DB.out.below hb)
    have SW := Lib.hid hr.sk
    obtain ⟨wa, wc, rfl, _⟩ := hr.form
    replace LB := Lib.hid (LB.out.below hb)
    replace RB := Lib.hid (RB.out.below hb)
    replace HG := Lib.hid (HG.out.below hb)
    replace BB := Lib.hid (BB.out.trans (hb.mono BB.out.size))
    clear x0 x1 x2 y0 y1 y2 y3 WN WO
    replace EV := Lib.hid (EV.out.below hb)
    clear hb hr
    have PTk := Lib.hid (PT.out (2 + 3 * kk) (by omega))
    rw [DD.out] at PTk
    rw [WL.out] at SW ⊢
    have EQ := Lib.hid (fun W h h' => equalL_any _ _ (wordsD (who, b0, c0, L)) (N.take (2 + 3 * kk)) W (SW.out.below h) (PTk.out.below h') (by rw [WL.out]; omega))
    rw [WL.out] at RL2
    obtain ⟨wb, hwb⟩ : ∃ x, decide (wordsD (who, b0, c0, L) = N.take (2 + 3 * kk)) = x := ⟨_, rfl⟩
    rw [hwb] at EQ RL2
    clear hwb
    go_wp2_with fail
    refine (EQ.out _ (Below.refl _ _) BB.out).mono ?_
    rintro e w6 ⟨rfl, hb⟩
    replace DB := Lib.hid (DB.out.below hb)
    replace EV := Lib.hid (EV.out.below hb)
    replace LB := Lib.hid (LB.out.below hb)
    replace RB := Lib.hid (RB.out.below hb)
    replace HG := Lib.hid (HG.out.below hb)
    replace BB := Lib.hid (BB.out.trans (hb.mono BB.out.size))
    clear hb EQ
    have k0 := RB.out.cell 0
    have k1 := RB.out.cell 1
    have k2 := RB.out.cell 2
    have k3 := RB.out.cell 3
    simp at k0 k1 k2 k3
    have f0 := RB.out.free 0
    have f1 := RB.out.free 1
    have f2 := RB.out.free 2
    have f3 := RB.out.free 3
    have l0 := RB.out.lt
    have y0 := DB.out.cell 0
    have y1 := DB.out.cell 1
    have y2 := DB.out.cell 2
    have y3 := DB.out.cell 3
    simp at y0 y1 y2 y3
    cases wb with
    | false =>
      rw [if_neg (by decide)] at RL2
      go_wp2_with fail
      clear k0 k1 k2 k3 f0 f1 f2 f3 l0
      replace RB : Hid (Box ((((w6.setCell ⟨q + 1, 0, none⟩ (.int .i64 0)).setCell ⟨q + 1, 1, none⟩ (.int .i64 0)).setCell ⟨q + 1, 2, none⟩ (.int .i64 0)).setCell ⟨q + 1, 3, none⟩ (.slice none 0 0)) (q + 1) #[.int .i64 0, .int .i64 0, .int .i64 0, .slice none 0 0] 25) := Lib.hid ((((RB.out.set 0 _).set 1 _).set 2 _).set 3 _)
      replace BB : Hid (Below w.heap.size w ((((w6.setCell ⟨q + 1, 0, none⟩ (.int .i64 0)).setCell ⟨q + 1, 1, none⟩ (.int .i64 0)).setCell ⟨q + 1, 2, none⟩ (.int .i64 0)).setCell ⟨q + 1, 3, none⟩ (.slice none 0 0))) := Lib.hid ((((BB.out.setCell (show w.heap.size ≤ q + 1 by have := HQ.out; omega) _).setCell (show w.heap.size ≤ q + 1 by have := HQ.out; omega) _).setCell (show w.heap.size ≤ q + 1 by have := HQ.out; omega) _).setCell (show w.heap.size ≤ q + 1 by have := HQ.out; omega) _)
      generalize ((((w6.setCell ⟨q + 1, 0, none⟩ (.int .i64 0)).setCell ⟨q + 1, 1, none⟩ (.int .i64 0)).setCell ⟨q + 1, 2, none⟩ (.int .i64 0)).setCell ⟨q + 1, 3, none⟩ (.slice none 0 0)) = W7 at *
      have k0 := RB.out.cell 0
      have k1 := RB.out.cell 1
      have k2 := RB.out.cell 2
      have k3 := RB.out.cell 3
      simp at k0 k1 k2 k3
      exact bodyPost_ret (v := .tuple #[.agg #[.int .i64 0, .int .i64 0, .int .i64 0, .slice none 0 0], .int .i64 5]) (by simp [results, Tryd.f22, go_sem, k0, k1, k2, k3]) rfl (ReadOut.no (RL2.out) (by decide) BB.out)
    | true =>
      rw [if_pos rfl] at RL2
      go_wp2_with fail
      have NE : Hid (ES ((((w6.setCell ⟨q + 1, 0, none⟩ (.int .i64 who)).setCell ⟨q + 1, 1, none⟩ (.int .i64 b0)).setCell ⟨q + 1, 2, none⟩ (.int .i64 c0)).setCell ⟨q + 1, 3, none⟩ (.slice ua kk uc)) (.slice ua kk uc) L) := Lib.hid (((((EV.out.otherSet RB.out (by decide) 0 _).otherSet (RB.out.set 0 _) (by simp; decide) 1 _).otherSet ((RB.out.set 0 _).set 1 _) (by simp; decide) 2 _).otherSet (((RB.out.set 0 _).set 1 _).set 2 _) (by simp; decide) 3 _))
      clear k0 k1 k2 k3 f0 f1 f2 f3 l0
      replace RB : Hid (Box ((((w6.setCell ⟨q + 1, 0, none⟩ (.int .i64 who)).setCell ⟨q + 1, 1, none⟩ (.int .i64 b0)).setCell ⟨q + 1, 2, none⟩ (.int .i64 c0)).setCell ⟨q + 1, 3, none⟩ (.slice ua kk uc)) (q + 1) #[.int .i64 who, .int .i64 b0, .int .i64 c0, .slice ua kk uc] 25) := Lib.hid ((((RB.out.set 0 _).set 1 _).set 2 _).set 3 _)
      replace BB : Hid (Below w.heap.size w ((((w6.setCell ⟨q + 1, 0, none⟩ (.int .i64 who)).setCell ⟨q + 1, 1, none⟩ (.int .i64 b0)).setCell ⟨q + 1, 2, none⟩ (.int .i64 c0)).setCell ⟨q + 1, 3, none⟩ (.slice ua kk uc))) := Lib.hid ((((BB.out.setCell (show w.heap.size ≤ q + 1 by have := HQ.out; omega) _).setCell (show w.heap.size ≤ q + 1 by have := HQ.out; omega) _).setCell (show w.heap.size ≤ q + 1 by have := HQ.out; omega) _).setCell (show w.heap.size ≤ q + 1 by have := HQ.out; omega) _)
      generalize ((((w6.setCell ⟨q + 1, 0, none⟩ (.int .i64 who)).setCell ⟨q + 1, 1, none⟩ (.int .i64 b0)).setCell ⟨q + 1, 2, none⟩ (.int .i64 c0)).setCell ⟨q + 1, 3, none⟩ (.slice ua kk uc)) = W7 at *
      have k0 := RB.out.cell 0
      have k1 := RB.out.cell 1
      have k2 := RB.out.cell 2
      have k3 := RB.out.cell 3
      simp at k0 k1 k2 k3
      exact bodyPost_ret (v := .tuple #[.agg #[.int .i64 who, .int .i64 b0, .int .i64 c0, .slice ua kk uc], .int .i64 0]) (by simp [results, Tryd.f22, go_sem, k0, k1, k2, k3]) rfl (RZ.out _ _ RL2.out NE.out BB.out)
end Go.Proofs.YtfegeahieajmkaaDoor
