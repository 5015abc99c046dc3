/- The reference's Read. -/
import Derived.Test.YtfegeahieajmkaaDoorDsWordsW
import Derived.Test.YtfegeahieajmkaaDoorDsRead
import Derived.Test.YtfegeahieajmkaaDoorDsRPlace
import Derived.Test.YtfegeahieajmkaaDoorDsRWords
import Derived.Test.YtfegeahieajmkaaDoorDsRFits
import Derived.Test.YtfegeahieajmkaaDoorDsRPack
import Derived.Deep.DeepCutAuto
import Derived.Laws.Cover3
namespace Go.Proofs.YtfegeahieajmkaaDoor
open Go.ChangeShapes Go.WideShapes Go.ChangeAt Go.RowKit Go.Maps
open Lay (startL checkI placeI mayI sizeI Ok starts checkI_ok)
/-- The status as the reference reads it. -/
def stI (c : Int) : Int := if 0 ≤ c ∧ c ≤ 3 then c else -1
theorem st_iff {T C B : Nat} (h : Ok T C B) (a b c : Int) (L : List En) (X : Ds → Prop) : (chkD T C B (a, b, stI c, L) = 0 ∧ X (a, b, stI c, L)) ↔ (chkD T C B (a, b, c, L) = 0 ∧ X (a, b, c, L)) := by
  unfold stI
  by_cases hc : 0 ≤ c ∧ c ≤ 3
  · rw [if_pos hc]
  · rw [if_neg hc]
    constructor
    · intro ⟨h1, _⟩
      have := (chkD_zero h a b (-1) L).1 h1
      omega
    · intro ⟨h1, _⟩
      have := (chkD_zero h a b c L).1 h1
      omega
/-- What the reference's Read answers. -/
def RdOut (T C B : Nat) (M : List Wd) (who : Int) (w : World) (e : Ending) (w' : World) : Prop :=
  (∃ a b c x n cp, e = .returned (.tuple #[.agg #[.int .i64 a, .int .i64 b, .int .i64 c, .slice x n cp], .bool (decide (rdE T C B M who = 0))]) ∧ (rdE T C B M who = 0 → ∃ L, rdD T C B M who = (a, b, c, L) ∧ L.length = n ∧ ES w' (.slice x n cp) L)) ∧ Below w.heap.size w w'
theorem RdOut.no {T C B : Nat} {M : List Wd} {who r a b c : Int} {x : Option Addr} {n cp : Nat} {w w' : World} (h : rdE T C B M who = r) (hr : r ≠ 0) (hb : Below w.heap.size w w') : RdOut T C B M who w (.returned (.tuple #[.agg #[.int .i64 a, .int .i64 b, .int .i64 c, .slice x n cp], .bool false])) w' := by
  refine ⟨⟨a, b, c, x, n, cp, ?_, fun h' => absurd (h.symm.trans h') hr⟩, hb⟩
  rw [decide_eq_false (by rw [h]; exact hr)]
theorem RdOut.yes {T C B : Nat} {M : List Wd} {who a b c : Int} {x : Option Addr} {n cp : Nat} {L : List En} {w w' : World} (h : rdE T C B M who = 0) (hD : rdD T C B M who = (a, b, c, L)) (hl : L.length = n) (he : ES w' (.slice x n cp) L) (hb : Below w.heap.size w w') : RdOut T C B M who w (.returned (.tuple #[.agg #[.int .i64 a, .int .i64 b, .int .i64 c, .slice x n cp], .bool true])) w' := by
  refine ⟨⟨a, b, c, x, n, cp, ?_, fun _ => ⟨L, hD, hl, he⟩⟩, hb⟩
  rw [decide_eq_true h]
theorem take_at {D : List Wd} {n j : Nat} (hn : n ≤ D.length) (hj : j < n) : (D.take n)[j]! = D[j]! := by
  rw [getElem!_pos _ j (by rw [List.length_take]; omega), getElem!_pos D j (by omega)]; simp
theorem eq_take {D X : List Wd} {n : Nat} (hn : n ≤ D.length) (hX : X.length = n) (h : ∀ t, t < n → D[t]! = X[t]!) : X = D.take n := by
  apply List.ext_getElem (by rw [hX, List.length_take]; omega)
  intro i h1 h2
  have := h i (by omega)
  rw [← take_at hn (by omega), getElem!_pos _ i h2, getElem!_pos X i h1] at this
  exact this.symm
theorem Lat.put {a w : World} (h : Lat a w) (b : Nat) (hb : a.heap.size ≤ b) (i : Nat) (u : Value) : Lat a (w.setCell ⟨b, i, none⟩ u) := Below.put h b hb i u
theorem Lat.le {a w : World} (h : Lat a w) : a.heap.size ≤ w.heap.size := Below.size h
theorem Box.cells4 {w : World} {b : Nat} {x0 x1 x2 x3 : Value} {t : TypeId} (h : Box w b #[x0, x1, x2, x3] t) : (w.cell? ⟨b, 0, none⟩ = some x0 ∧ w.cell? ⟨b, 1, none⟩ = some x1 ∧ w.cell? ⟨b, 2, none⟩ = some x2 ∧ w.cell? ⟨b, 3, none⟩ = some x3) ∧ w.frozen? ⟨b, 0, none⟩ = false ∧ w.frozen? ⟨b, 1, none⟩ = false ∧ w.frozen? ⟨b, 2, none⟩ = false ∧ w.frozen? ⟨b, 3, none⟩ = false :=
  ⟨⟨h.cell 0, h.cell 1, h.cell 2, h.cell 3⟩, h.free 0, h.free 1, h.free 2, h.free 3⟩
theorem Box.cells6 {w : World} {b : Nat} {x0 x1 x2 x3 x4 x5 : Value} {t : TypeId} (h : Box w b #[x0, x1, x2, x3, x4, x5] t) : (w.cell? ⟨b, 0, none⟩ = some x0 ∧ w.cell? ⟨b, 1, none⟩ = some x1 ∧ w.cell? ⟨b, 2, none⟩ = some x2 ∧ w.cell? ⟨b, 3, none⟩ = some x3 ∧ w.cell? ⟨b, 4, none⟩ = some x4 ∧ w.cell? ⟨b, 5, none⟩ = some x5) ∧ w.frozen? ⟨b, 0, none⟩ = false ∧ w.frozen? ⟨b, 1, none⟩ = false ∧ w.frozen? ⟨b, 2, none⟩ = false ∧ w.frozen? ⟨b, 3, none⟩ = false ∧ w.frozen? ⟨b, 4, none⟩ = false ∧ w.frozen? ⟨b, 5, none⟩ = false :=
  ⟨⟨h.cell 0, h.cell 1, h.cell 2, h.cell 3, h.cell 4, h.cell 5⟩, h.free 0, h.free 1, h.free 2, h.free 3, h.free 4, h.free 5⟩
set_option maxRecDepth 100000 in
set_option maxHeartbeats 12800000 in
theorem rread_any (T C B : Nat) (u v : Value) (M : List Wd) (a : Int) (w : World) (hok : Ok T C B) (hu : SK blE w u (mayBs T C B (startL T C B 7))) (hv : WS w v M) (hl : startL T C B 7 ≤ M.length) (hk : M.length ≤ 5000) (ho : ∀ x ∈ M, OkW x) (ha : -9223372036854775808 ≤ a ∧ a < 9223372036854775808) : Calls Tryd.prog 24 #[PlV T C B u, v, .int .i64 a] w (RdOut T C B M a w) := by
  have OK := Lib.hid hok
  have PR := Lib.hid (place_room hok a)
  have HV := Lib.hid hv
  have HU := Lib.hid hu
  have HO := Lib.hid ho
  have HD := Lib.hid (rdE_long hok (M := M) (who := a) hl)
  have HE := Lib.hid (show rdD T C B M a = if rdE T C B M a = 0 then descA (M.drop (placeI T C B a).1.toNat) a else zD from rfl)
  have RP := Lib.hid (fun W h => rplace_any T C B u a W hok (hu.below h) ha)
  have RF := Lib.hid (fun x c v' L W h (h1 : ES W v' L) h2 => rfits_any T C B u a x c v' L W hok (hu.below h) h1 h2 ha)
  obtain ⟨a1, cp, rfl, hcap⟩ := hv.form
  obtain ⟨pua, puc, rfl, _⟩ := hu.form
  rw [mayBs_len] at HU RP RF ⊢
  unfold PlV at *
  obtain ⟨n, hn⟩ : ∃ n, M.length = n := ⟨_, rfl⟩
  rw [hn] at HV hl hcap hk ⊢
  have HN := Lib.hid hn
  obtain ⟨pn, hpn⟩ : ∃ n, startL T C B 7 = n := ⟨_, rfl⟩
  obtain ⟨s4, hs4⟩ : ∃ n, startL T C B 4 = n := ⟨_, rfl⟩
  obtain ⟨rm, hrm⟩ : ∃ n, roomsI T C B = n := ⟨_, rfl⟩
  have h0 : 0 < n := by have := starts T C B; omega
  rw [hpn] at HU RP RF PR hl ⊢
  rw [hs4] at PR
  rw [hs4, hrm] at RP RF ⊢
  clear hv hu hn hpn hs4 hrm ho HU
  obtain ⟨b, off, rfl, hbl, hln, hc⟩ := HV.out.addr (k := 0) (by omega)
  have CC := Lib.hid (fun W' (h : Below w.heap.size w W') k (hk : k < n) => (show (W'.cell? ⟨b, off + k * 3, none⟩ = some (.int .i64 (M[k]!).1) ∧ W'.cell? ⟨b, off + k * 3 + 1, none⟩ = some (.int .u32 (M[k]!).2.1) ∧ W'.cell? ⟨b, off + k * 3 + 2, none⟩ = some (.int .u32 (M[k]!).2.2)) from ⟨(h.cell hbl).trans (wd_cells hc (by rw [hln]; exact hk)).1, (h.cell hbl).trans (wd_cells hc (by rw [hln]; exact hk)).2.1, (h.cell hbl).trans (wd_cells hc (by rw [hln]; exact hk)).2.2⟩))
  have OW := Lib.hid (fun k (h : k < n) => okw_at HO.out (k := k) (by rw [HN.out]; exact h))
  clear hc hln hbl HV HO
  obtain ⟨pa, hpa⟩ : ∃ x, (placeI T C B a).1 = x := ⟨_, rfl⟩
  obtain ⟨pm, hpm⟩ : ∃ x, (placeI T C B a).2 = x := ⟨_, rfl⟩
  have HPA := Lib.hid hpa
  have HPM := Lib.hid hpm
  rw [hpa] at HD HE
  rw [hpa, hpm] at RP
  clear hpa hpm
  obtain ⟨r, hr⟩ : ∃ r, rdE T C B M a = r := ⟨_, rfl⟩
  have HR := Lib.hid hr
  rw [hr] at HD HE
  clear hr
  go_enter Tryd.func24, Tryd.ntmps24
  go_upto_region 1 with fail
  have B1 := Lib.hid (below1 w (.cells #[.int .i64 T, .int .i64 B, .int .i64 s4, .int .i64 rm, .int .i64 104, .int .i64 32, .slice pua pn puc, .int .i64 pn] 32))
  have B2 := Lib.hid (below1 (w.alloc (.cells #[.int .i64 T, .int .i64 B, .int .i64 s4, .int .i64 rm, .int .i64 104, .int .i64 32, .slice pua pn puc, .int .i64 pn] 32)) (.cells #[.int .i64 0, .int .i64 0, .int .i64 0, .slice none 0 0] 39))
  have BB := Lib.hid (B1.out.trans (B2.out.mono B1.out.size))
  have P2 := Lib.hid ((Box.new w #[.int .i64 T, .int .i64 B, .int .i64 s4, .int .i64 rm, .int .i64 104, .int .i64 32, .slice pua pn puc, .int .i64 pn] 32 rfl).below B2.out)
  have R6 := Lib.hid (Box.new (w.alloc (.cells #[.int .i64 T, .int .i64 B, .int .i64 s4, .int .i64 rm, .int .i64 104, .int .i64 32, .slice pua pn puc, .int .i64 pn] 32)) #[.int .i64 0, .int .i64 0, .int .i64 0, .slice none 0 0] 39 (n := w.heap.size + 1) (by simp))
  obtain ⟨W, hW⟩ : ∃ W, ((w.alloc (.cells #[.int .i64 T, .int .i64 B, .int .i64 s4, .int .i64 rm, .int .i64 104, .int .i64 32, .slice pua pn puc, .int .i64 pn] 32)).alloc (.cells #[.int .i64 0, .int .i64 0, .int .i64 0, .slice none 0 0] 39)) = W := ⟨_, rfl⟩
  obtain ⟨q, hq⟩ : ∃ q, w.heap.size = q := ⟨_, rfl⟩
  have HQ := Lib.hid hq
  rw [hW] at BB P2 R6
  rw [hq] at P2 R6
  rw [hW, hq]
  clear hW hq B1 B2
  have x0 := P2.out.cell 0
  have x1 := P2.out.cell 1
  have x2 := P2.out.cell 2
  have x3 := P2.out.cell 3
  have x4 := P2.out.cell 4
  have x5 := P2.out.cell 5
  have x6 := P2.out.cell 6
  have x7 := P2.out.cell 7
  simp at x0 x1 x2 x3 x4 x5 x6 x7
  go_wp2_with fail
  refine (RP.out _ BB.out).mono ?_
  rintro e w1 ⟨rfl, hb⟩
  replace P2 := Lib.hid (P2.out.below hb)
  replace R6 := Lib.hid (R6.out.below hb)
  replace BB := Lib.hid (BB.out.trans (hb.mono BB.out.size))
  clear hb x0 x1 x2 x3 x4 x5 x6 x7 RP
  rcases PR.out with hp | ⟨p, m, hp, hm, hroom, -⟩
  · have e1 : pa = -1 := by rw [← HPA.out, hp]
    subst e1
    have e2 : r = 3 := by rw [HD.out, if_pos (by omega)]
    subst e2
    clear hp PR HD HE
    have k0 := R6.out.cell 0
    have k1 := R6.out.cell 1
    have k2 := R6.out.cell 2
    have k3 := R6.out.cell 3
    simp at k0 k1 k2 k3
    have f0 := R6.out.free 0
    have f1 := R6.out.free 1
    have f2 := R6.out.free 2
    have f3 := R6.out.free 3
    have l0 := R6.out.lt
    go_wp2_with fail
    replace R6 : Hid (Box ((((w1.setCell ⟨q + 1, 0, none⟩ (.int .i64 0)).setCell ⟨q + 1, 1, none⟩ (.int .i64 0)).setCell ⟨q + 1, 2, none⟩ (.int .i64 0)).setCell ⟨q + 1, 3, none⟩ (.slice none 0 0)) (q + 1) #[.int .i64 0, .int .i64 0, .int .i64 0, .slice none 0 0] 39) := Lib.hid ((((R6.out.set 0 _).set 1 _).set 2 _).set 3 _)
    replace BB : Hid (Below w.heap.size w ((((w1.setCell ⟨q + 1, 0, none⟩ (.int .i64 0)).setCell ⟨q + 1, 1, none⟩ (.int .i64 0)).setCell ⟨q + 1, 2, none⟩ (.int .i64 0)).setCell ⟨q + 1, 3, none⟩ (.slice none 0 0))) := Lib.hid ((((BB.out.setCell (show w.heap.size ≤ q + 1 by have := HQ.out; omega) _).setCell (show w.heap.size ≤ q + 1 by have := HQ.out; omega) _).setCell (show w.heap.size ≤ q + 1 by have := HQ.out; omega) _).setCell (show w.heap.size ≤ q + 1 by have := HQ.out; omega) _)
    generalize ((((w1.setCell ⟨q + 1, 0, none⟩ (.int .i64 0)).setCell ⟨q + 1, 1, none⟩ (.int .i64 0)).setCell ⟨q + 1, 2, none⟩ (.int .i64 0)).setCell ⟨q + 1, 3, none⟩ (.slice none 0 0)) = W7 at *
    clear k0 k1 k2 k3 f0 f1 f2 f3 l0
    have k0 := R6.out.cell 0
    have k1 := R6.out.cell 1
    have k2 := R6.out.cell 2
    have k3 := R6.out.cell 3
    simp at k0 k1 k2 k3
    exact bodyPost_ret (v := .tuple #[.agg #[.int .i64 0, .int .i64 0, .int .i64 0, .slice none 0 0], .bool false]) (by simp [results, Tryd.f24, go_sem, k0, k1, k2, k3]) rfl (RdOut.no HR.out (by decide) BB.out)
  have e1 : pa = (p : Int) := by rw [← HPA.out, hp]
  have e2 : pm = (m : Int) := by rw [← HPM.out, hp]
  subst e1 e2
  rw [if_neg (by omega), Int.toNat_natCast] at HD
  rw [Int.toNat_natCast] at HE
  have hm32 : m ≤ 32 ∧ 10 ≤ m := by rcases hm with rfl | rfl <;> omega
  obtain ⟨hm1, hm2⟩ := hm32
  clear hp PR hm HPA
  have hpn : p + 2 + 3 * m ≤ n := by omega
  clear hroom
  have NL := Lib.hid (show (M.drop p).length = n - p by rw [List.length_drop, HN.out])
  have DN := Lib.hid (fun k (h : p + k < n) => show M[p + k]! = (M.drop p)[k]! from by rw [getElem!_pos M _ (by rw [HN.out]; exact h), getElem!_pos (M.drop p) _ (by rw [NL.out]; omega)]; simp)
  obtain ⟨D, hD⟩ : ∃ D, M.drop p = D := ⟨_, rfl⟩
  rw [hD] at HD HE NL DN
  clear hD
  have CD := Lib.hid (fun W' (h : Below w.heap.size w W') k (hk : p + k < n) => (show (W'.cell? ⟨b, off + (p + k) * 3, none⟩ = some (.int .i64 (D[k]!).1) ∧ W'.cell? ⟨b, off + (p + k) * 3 + 1, none⟩ = some (.int .u32 (D[k]!).2.1) ∧ W'.cell? ⟨b, off + (p + k) * 3 + 2, none⟩ = some (.int .u32 (D[k]!).2.2)) by rw [← DN.out k hk]; exact CC.out W' h (p + k) hk))
  have OD := Lib.hid (fun k (h : p + k < n) => show OkW D[k]! by rw [← DN.out k h]; exact OW.out (p + k) h)
  clear CC OW DN
  obtain ⟨o1, o2, o3⟩ := OD.out 0 (by omega)
  obtain ⟨p1, p2, p3⟩ := OD.out 1 (by omega)
  obtain ⟨sb, hs⟩ : ∃ s, rdB T C B D a = s := ⟨_, rfl⟩
  rw [hs] at HD
  have HS := Lib.hid hs
  unfold rdB at HS
  rw [HPM.out] at HS
  unfold decB at HS
  clear hs HPM
  obtain ⟨x, hx⟩ : ∃ x, D[0]! = x := ⟨_, rfl⟩
  obtain ⟨y, hy⟩ : ∃ x, D[1]! = x := ⟨_, rfl⟩
  have C0 := Lib.hid (fun W' h => CD.out W' h 0 (by omega))
  have D0 := Lib.hid (fun W' h => CD.out W' h 1 (by omega))
  have HA := Lib.hid (show descA D a = (a, D[0]!.2.1, D[0]!.1, entsA D D[1]!.1.toNat) from rfl)
  rw [hx] at o1 o2 o3 C0 HA
  rw [hy] at p1 p2 p3 D0 HS HA
  have HX := Lib.hid hx
  have HY := Lib.hid hy
  clear hx hy
  obtain ⟨x0, x1, x2⟩ := x
  obtain ⟨y0, y1, y2⟩ := y
  simp only at o1 o2 o3 p1 p2 p3 C0 D0 HS HA
  rw [Nat.add_zero] at C0
  rw [HA.out] at HS HE
  clear HA
  have hp1 : IntKind.i64.wrap ((p : Int) + 1) = (p : Int) + 1 := IntWalk.i64_in _ (by omega)
  have hp2 : (p : Int) + 1 < (n : Int) := by omega
  have hp3 : (0 : Int) ≤ (p : Int) + 1 := by omega
  have hp4 : (p : Int) < (n : Int) := by omega
  have hp5 : (0 : Int) ≤ (p : Int) := by omega
  have hp6 : ¬ (p : Int) < 0 := by omega
  obtain ⟨d0, d1, d2⟩ := D0.out _ BB.out
  obtain ⟨c0, c1, c2⟩ := C0.out _ BB.out
  by_cases h1 : y0 < 1
  · have e : sb = false := by rw [← HS.out, decide_eq_false (by omega)]; rfl
    subst e
    have e : r = 5 := by rw [HD.out, if_neg (by decide)]
    subst e
    clear HD HE HS
    have k0 := R6.out.cell 0
    have k1 := R6.out.cell 1
    have k2 := R6.out.cell 2
    have k3 := R6.out.cell 3
    simp at k0 k1 k2 k3
    have f0 := R6.out.free 0
    have f1 := R6.out.free 1
    have f2 := R6.out.free 2
    have f3 := R6.out.free 3
    have l0 := R6.out.lt
    go_wp2_with fail
    replace R6 : Hid (Box ((((w1.setCell ⟨q + 1, 0, none⟩ (.int .i64 0)).setCell ⟨q + 1, 1, none⟩ (.int .i64 0)).setCell ⟨q + 1, 2, none⟩ (.int .i64 0)).setCell ⟨q + 1, 3, none⟩ (.slice none 0 0)) (q + 1) #[.int .i64 0, .int .i64 0, .int .i64 0, .slice none 0 0] 39) := Lib.hid ((((R6.out.set 0 _).set 1 _).set 2 _).set 3 _)
    replace BB : Hid (Below w.heap.size w ((((w1.setCell ⟨q + 1, 0, none⟩ (.int .i64 0)).setCell ⟨q + 1, 1, none⟩ (.int .i64 0)).setCell ⟨q + 1, 2, none⟩ (.int .i64 0)).setCell ⟨q + 1, 3, none⟩ (.slice none 0 0))) := Lib.hid ((((BB.out.setCell (show w.heap.size ≤ q + 1 by have := HQ.out; omega) _).setCell (show w.heap.size ≤ q + 1 by have := HQ.out; omega) _).setCell (show w.heap.size ≤ q + 1 by have := HQ.out; omega) _).setCell (show w.heap.size ≤ q + 1 by have := HQ.out; omega) _)
    generalize ((((w1.setCell ⟨q + 1, 0, none⟩ (.int .i64 0)).setCell ⟨q + 1, 1, none⟩ (.int .i64 0)).setCell ⟨q + 1, 2, none⟩ (.int .i64 0)).setCell ⟨q + 1, 3, none⟩ (.slice none 0 0)) = W7 at *
    clear k0 k1 k2 k3 f0 f1 f2 f3 l0
    have k0 := R6.out.cell 0
    have k1 := R6.out.cell 1
    have k2 := R6.out.cell 2
    have k3 := R6.out.cell 3
    simp at k0 k1 k2 k3
    exact bodyPost_ret (v := .tuple #[.agg #[.int .i64 0, .int .i64 0, .int .i64 0, .slice none 0 0], .bool false]) (by simp [results, Tryd.f24, go_sem, k0, k1, k2, k3]) rfl (RdOut.no HR.out (by decide) BB.out)
  by_cases h2 : (m : Int) < y0
  · have e : sb = false := by rw [← HS.out, decide_eq_false (by omega)]; rfl
    subst e
    have e : r = 5 := by rw [HD.out, if_neg (by decide)]
    subst e
    clear HD HE HS
    have k0 := R6.out.cell 0
    have k1 := R6.out.cell 1
    have k2 := R6.out.cell 2
    have k3 := R6.out.cell 3
    simp at k0 k1 k2 k3
    have f0 := R6.out.free 0
    have f1 := R6.out.free 1
    have f2 := R6.out.free 2
    have f3 := R6.out.free 3
    have l0 := R6.out.lt
    go_wp2_with fail
    replace R6 : Hid (Box ((((w1.setCell ⟨q + 1, 0, none⟩ (.int .i64 0)).setCell ⟨q + 1, 1, none⟩ (.int .i64 0)).setCell ⟨q + 1, 2, none⟩ (.int .i64 0)).setCell ⟨q + 1, 3, none⟩ (.slice none 0 0)) (q + 1) #[.int .i64 0, .int .i64 0, .int .i64 0, .slice none 0 0] 39) := Lib.hid ((((R6.out.set 0 _).set 1 _).set 2 _).set 3 _)
    replace BB : Hid (Below w.heap.size w ((((w1.setCell ⟨q + 1, 0, none⟩ (.int .i64 0)).setCell ⟨q + 1, 1, none⟩ (.int .i64 0)).setCell ⟨q + 1, 2, none⟩ (.int .i64 0)).setCell ⟨q + 1, 3, none⟩ (.slice none 0 0))) := Lib.hid ((((BB.out.setCell (show w.heap.size ≤ q + 1 by have := HQ.out; omega) _).setCell (show w.heap.size ≤ q + 1 by have := HQ.out; omega) _).setCell (show w.heap.size ≤ q + 1 by have := HQ.out; omega) _).setCell (show w.heap.size ≤ q + 1 by have := HQ.out; omega) _)
    generalize ((((w1.setCell ⟨q + 1, 0, none⟩ (.int .i64 0)).setCell ⟨q + 1, 1, none⟩ (.int .i64 0)).setCell ⟨q + 1, 2, none⟩ (.int .i64 0)).setCell ⟨q + 1, 3, none⟩ (.slice none 0 0)) = W7 at *
    clear k0 k1 k2 k3 f0 f1 f2 f3 l0
    have k0 := R6.out.cell 0
    have k1 := R6.out.cell 1
    have k2 := R6.out.cell 2
    have k3 := R6.out.cell 3
    simp at k0 k1 k2 k3
    exact bodyPost_ret (v := .tuple #[.agg #[.int .i64 0, .int .i64 0, .int .i64 0, .slice none 0 0], .bool false]) (by simp [results, Tryd.f24, go_sem, k0, k1, k2, k3]) rfl (RdOut.no HR.out (by decide) BB.out)
  rw [decide_eq_true (by omega), Bool.true_and] at HS
  obtain ⟨k, rfl⟩ : ∃ k : Nat, y0 = k := ⟨y0.toNat, by omega⟩
  rw [Int.toNat_natCast] at HS HE
  have hw1 : IntKind.i64.wrap x1 = x1 := IntWalk.i64_in _ (by omega)
  go_upto_region 8 with fail
  clear d0 d1 d2 c0 c1 c2
  have L11 := Lib.hid (Box.new w1 #[.int .i64 a, .int .i64 x1, .int .i64 (-1), .slice none 0 0] 39 rfl)
  have GQ := Lib.hid (show q + 1 < w1.heap.size from R6.out.lt)
  have B1 := Lib.hid (below1 w1 (.cells #[.int .i64 a, .int .i64 x1, .int .i64 (-1), .slice none 0 0] 39))
  replace P2 := Lib.hid (P2.out.below B1.out)
  replace R6 := Lib.hid (R6.out.below B1.out)
  replace BB := Lib.hid (BB.out.trans (B1.out.mono BB.out.size))
  clear B1
  generalize w1.alloc (.cells #[.int .i64 a, .int .i64 x1, .int .i64 (-1), .slice none 0 0] 39) = W2 at *
  generalize w1.heap.size = g at *
  obtain ⟨st, hst⟩ : ∃ s, stI x0 = s := ⟨_, rfl⟩
  have HST := Lib.hid hst
  unfold stI at hst
  obtain ⟨bb, hbb⟩ : ∃ x, decide (0 ≤ x0 ∧ x0 ≤ 3) = x := ⟨_, rfl⟩
  have HBB := Lib.hid hbb
  have HST2 := Lib.hid hst
  clear hst hbb
  go_cut [62] (fun s wx => s = .bool bb ∧ wx = W2)
  case first =>
    obtain ⟨c0, c1, c2⟩ := C0.out _ BB.out
    by_cases g1 : 0 ≤ x0
    case neg =>
      go_wp2_with fail
      go_meet
      case rel => exact ⟨by rw [← HBB.out, decide_eq_false (by omega)], rfl⟩
    by_cases g2 : x0 ≤ 3
    case neg =>
      go_wp2_with fail
      go_meet
      case rel => exact ⟨by rw [← HBB.out, decide_eq_false (by omega)], rfl⟩
    go_wp2_with fail
    go_meet
    case rel => exact ⟨by rw [← HBB.out, decide_eq_true ⟨g1, g2⟩], rfl⟩
  obtain ⟨rfl, rfl⟩ := hcut
  go_upto_if 62 with fail
  go_cut [62] (fun s wx => Box wx g #[.int .i64 a, .int .i64 x1, .int .i64 st, .slice none 0 0] 39 ∧ Box wx (q + 1) #[.int .i64 0, .int .i64 0, .int .i64 0, .slice none 0 0] 39 ∧ Box wx q #[.int .i64 T, .int .i64 B, .int .i64 s4, .int .i64 rm, .int .i64 104, .int .i64 32, .slice pua pn puc, .int .i64 pn] 32 ∧ Below w.heap.size w wx)
  case first =>
    have e := HST2.out
    cases bb with
    | false =>
      rw [if_neg (of_decide_eq_false HBB.out)] at e
      subst e
      go_wp2_with fail
      go_meet
      case rel => exact ⟨L11.out, R6.out, P2.out, BB.out⟩
    | true =>
      rw [if_pos (of_decide_eq_true HBB.out)] at e
      subst e
      obtain ⟨c0, c1, c2⟩ := C0.out _ BB.out
      have m2 := L11.out.cell 2
      have f2 := L11.out.free 2
      have l2 := L11.out.lt
      simp at m2
      have hw2 : IntKind.i64.wrap x0 = x0 := IntWalk.i64_in _ (by omega)
      go_wp2_with fail
      go_meet
      case rel => exact ⟨L11.out.set 2 _, R6.out.other (by have := GQ.out; omega) 2 _, P2.out.other (by have := GQ.out; omega) 2 _, BB.out.put g (by have := GQ.out; have := HQ.out; omega) 2 _⟩
  case rest =>
    obtain ⟨h1, h2, h3, h4⟩ := hcut
    clear L11 R6 P2 BB HBB HST2
    have L11 := Lib.hid h1
    have R6 := Lib.hid h2
    have P2 := Lib.hid h3
    have BB := Lib.hid h4
    clear h1 h2 h3 h4
    go_wp2_with fail
    go_loopw [12] (fun iv wr => ∃ i u, i ≤ k ∧ iv = .int .i64 (i : Nat) ∧ (∀ j, j < i → isA D j = true) ∧ Box wr g #[.int .i64 a, .int .i64 x1, .int .i64 st, u] 39 ∧ RowK enE 49 w.heap.size wr u (entsA D i) ∧ Box wr (q + 1) #[.int .i64 0, .int .i64 0, .int .i64 0, .slice none 0 0] 39 ∧ Box wr q #[.int .i64 T, .int .i64 B, .int .i64 s4, .int .i64 rm, .int .i64 104, .int .i64 32, .slice pua pn puc, .int .i64 pn] 32 ∧ Below w.heap.size w wr) (fun iv _ => k - (intOf iv).toNat)
    case atStart => exact ⟨0, _, by omega, rfl, fun j hj => by omega, L11.out, RowK.nil _ _ _, R6.out, P2.out, BB.out⟩
    case round =>
      obtain ⟨i, u, hi, rfl, hno, hlb, hr, hrb, hpb, hb⟩ := hrel
      replace BB := Lib.hid hb
      replace L11 := Lib.hid hlb
      replace R6 := Lib.hid hrb
      replace P2 := Lib.hid hpb
      have R := Lib.hid hr
      have NO := Lib.hid hno
      clear hb hlb hrb hr hno hpb
      by_cases hlt : i < k
      · obtain ⟨kk, hkk⟩ : ∃ x, p + (2 + 3 * i) = x := ⟨_, rfl⟩
        have q0 : kk + 3 ≤ n := by omega
        have C1 := Lib.hid (fun W' (h : Below w.heap.size w W') => CD.out W' h (2 + 3 * i) (by omega))
        have C2 := Lib.hid (fun W' (h : Below w.heap.size w W') => CD.out W' h (2 + 3 * i + 1) (by omega))
        have C3 := Lib.hid (fun W' (h : Below w.heap.size w W') => CD.out W' h (2 + 3 * i + 2) (by omega))
        rw [hkk] at C1
        rw [show p + (2 + 3 * i + 1) = kk + 1 by omega] at C2
        rw [show p + (2 + 3 * i + 2) = kk + 2 by omega] at C3
        have UP := Lib.hid (runpack_any D[2 + 3 * i]! D[2 + 3 * i + 1]! D[2 + 3 * i + 2]!)
        have UE := Lib.hid (show unE D[2 + 3 * i]! D[2 + 3 * i + 1]! D[2 + 3 * i + 2]! = (if isA D i = true then entA D i else zE) from rfl)
        have US := Lib.hid (show isEnt D[2 + 3 * i]! D[2 + 3 * i + 1]! D[2 + 3 * i + 2]! = isA D i from rfl)
        rw [UE.out, US.out] at UP
        have ES1 := Lib.hid (entsA_succ D i)
        have EL := Lib.hid (entsA_len D i)
        unfold enV w3V at UP
        clear UE US
        obtain ⟨A, hA⟩ : ∃ x, D[2 + 3 * i]! = x := ⟨_, rfl⟩
        obtain ⟨A', hA'⟩ : ∃ x, D[2 + 3 * i + 1]! = x := ⟨_, rfl⟩
        obtain ⟨A'', hA''⟩ : ∃ x, D[2 + 3 * i + 2]! = x := ⟨_, rfl⟩
        rw [hA] at C1 UP
        rw [hA'] at C2 UP
        rw [hA''] at C3 UP
        clear hA hA' hA''
        obtain ⟨s0, s1, s2⟩ := A
        obtain ⟨t0, t1, t2⟩ := A'
        obtain ⟨r0, r1, r2⟩ := A''
        simp only at C1 C2 C3 UP
        obtain ⟨ra, rc, e6, _⟩ := R.out.form
        rw [EL.out] at e6
        subst e6
        obtain ⟨zz, hz⟩ : ∃ z, isA D i = z := ⟨_, rfl⟩
        rw [hz] at UP
        have HZ := Lib.hid hz
        clear hz
        obtain ⟨en, hen⟩ : ∃ e, (if zz = true then entA D i else zE) = e := ⟨_, rfl⟩
        rw [hen] at UP
        have HEN := Lib.hid hen
        clear hen
        obtain ⟨e0, ⟨e1, e2, e3⟩, e4, e5⟩ := en
        simp only at UP
        have q1 : IntKind.i64.wrap ((p : Int) + 2) = (p : Int) + 2 := IntWalk.i64_in _ (by omega)
        have q2 : IntKind.i64.wrap (3 * (i : Int)) = 3 * (i : Int) := IntWalk.i64_in _ (by omega)
        have q3 : IntKind.i64.wrap ((p : Int) + 2 + 3 * (i : Int)) = (kk : Int) := by rw [IntWalk.i64_in _ (by omega)]; omega
        have q4 : IntKind.i64.wrap ((kk : Int) + 1) = (kk : Int) + 1 := IntWalk.i64_in _ (by omega)
        have q5 : IntKind.i64.wrap ((kk : Int) + 2) = (kk : Int) + 2 := IntWalk.i64_in _ (by omega)
        have q6 : (kk : Int) < (n : Int) := by omega
        have q7 : (kk : Int) + 1 < (n : Int) := by omega
        have q8 : (kk : Int) + 2 < (n : Int) := by omega
        have q9 : (0 : Int) ≤ (kk : Int) + 1 := by omega
        have q10 : (0 : Int) ≤ (kk : Int) + 2 := by omega
        have q11 : ((kk : Int) + 2).toNat = kk + 2 := by omega
        go_upto_region 14 with fail
        have BV : Hid (Lat wr wr) := Lib.hid (Below.refl _ _)
        have RB := R
        have B0 := BB
        go_cut [14, 15] (fun s14 s15 wx => ∃ pe, s14 = .pointer (some ⟨pe, 0, none⟩) ∧ s15 = .bool zz ∧ wr.heap.size ≤ pe ∧ Box wx pe #[.int .i64 e0, .int .i64 e1, .int .u32 e2, .int .u32 e3, .int .i64 e4, .bool e5] 49 ∧ Lat wr wx)
        case first =>
          clear NO HZ HEN ES1 EL P2 R6 L11 R RB
          -- DRIVE14
          replace BV := Lib.hid (BV.out.below ((Below.refl _ _).drew))
          replace BB := Lib.hid (BB.out.trans (((Below.refl _ _).drew).mono BB.out.size))
          refine wp_region_held_drew (S := fun w' => w'.cell? ⟨b, off + kk * 3, none⟩ = some (.int .i64 s0) ∧ w'.cell? ⟨b, off + kk * 3 + 1, none⟩ = some (.int .u32 s1) ∧ w'.cell? ⟨b, off + kk * 3 + 2, none⟩ = some (.int .u32 s2) ∧ w'.cell? ⟨b, off + (kk + 1) * 3, none⟩ = some (.int .i64 t0) ∧ w'.cell? ⟨b, off + (kk + 1) * 3 + 1, none⟩ = some (.int .u32 t1) ∧ w'.cell? ⟨b, off + (kk + 1) * 3 + 2, none⟩ = some (.int .u32 t2) ∧ w'.cell? ⟨b, off + (kk + 2) * 3, none⟩ = some (.int .i64 r0) ∧ w'.cell? ⟨b, off + (kk + 2) * 3 + 1, none⟩ = some (.int .u32 r1) ∧ w'.cell? ⟨b, off + (kk + 2) * 3 + 2, none⟩ = some (.int .u32 r2)) (by kernel_rfl) ⟨(C1.out _ BB.out).1, (C1.out _ BB.out).2.1, (C1.out _ BB.out).2.2, (C2.out _ BB.out).1, (C2.out _ BB.out).2.1, (C2.out _ BB.out).2.2, (C3.out _ BB.out).1, (C3.out _ BB.out).2.1, (C3.out _ BB.out).2.2⟩ (fun hHeld => ?_)
          generalize World.drew wr = V30 at *
          refine wpAnyH_take (i := 0) (oi := { dst := some 80, op := Op.move (Operand.tmp 1), type := 35, pos := "ref.go:107", after := #[], guard := none }) (v := ?d31_1xv0) rfl (by kernel_rfl) (by kernel_rfl) (by kernel_rfl) (fun _ _ _ h => h) (Or.inl ⟨by rfl, ?d31_1xy0⟩) (by assumption) ?d31_1xr0
          case d31_1xy0 => (intro w hSw; (try dsimp only at hSw); go_simp; try with_reducible rfl)
          (try simp only [Act.put])
          (try simp only [List.setIfInBounds_toArray])
          (try simp only [List.set_cons_succ])
          (try simp only [List.set_cons_zero])
          refine wpAnyH_take (i := 1) (oi := { dst := some 81, op := Op.move (Operand.tmp 13), type := 3, pos := "ref.go:107", after := #[], guard := none }) (v := ?d31_2xv1) rfl (by kernel_rfl) (by kernel_rfl) (by kernel_rfl) (fun _ _ _ h => h) (Or.inl ⟨by rfl, ?d31_2xy1⟩) (by assumption) ?d31_2xr1
          case d31_2xy1 => (intro w hSw; (try dsimp only at hSw); go_simp; try with_reducible rfl)
          (try simp only [Act.put])
          (try simp only [List.setIfInBounds_toArray])
          (try simp only [List.set_cons_succ])
          (try simp only [List.set_cons_zero])
          refine wpAnyH_take (i := 2) (oi := { dst := some 82, op := Op.indexAddr 35 (Operand.tmp 80) (Operand.tmp 81), type := 0, pos := "ref.go:107", after := #[{ on := 0, ground := Ground.data }, { on := 1, ground := Ground.data }], guard := none }) (v := ?d31_3xv2) rfl (by kernel_rfl) (by kernel_rfl) (by kernel_rfl) (fun _ _ _ h => h) (Or.inl ⟨by rfl, ?d31_3xy2⟩) (by assumption) ?d31_3xr2
          case d31_3xy2 => (intro w hSw; (try dsimp only at hSw); go_simp; try with_reducible rfl)
          (try simp only [Act.put])
          (try simp only [List.setIfInBounds_toArray])
          (try simp only [List.set_cons_succ])
          (try simp only [List.set_cons_zero])
          refine wpAnyH_take (i := 3) (oi := { dst := some 83, op := Op.load 47 (Operand.tmp 82), type := 47, pos := "ref.go:107", after := #[{ on := 2, ground := Ground.data }], guard := none }) (v := ?d31_4xv3) rfl (by kernel_rfl) (by kernel_rfl) (by kernel_rfl) (fun _ _ _ h => h) (Or.inl ⟨by rfl, ?d31_4xy3⟩) (by assumption) ?d31_4xr3
          case d31_4xy3 => (intro w hSw; (try dsimp only at hSw); go_simp; try with_reducible rfl)
          (try simp only [Act.put])
          (try simp only [List.setIfInBounds_toArray])
          (try simp only [List.set_cons_succ])
          (try simp only [List.set_cons_zero])
          refine wpAnyH_take (i := 4) (oi := { dst := some 84, op := Op.move (Operand.tmp 1), type := 35, pos := "ref.go:107", after := #[], guard := none }) (v := ?d31_5xv4) rfl (by kernel_rfl) (by kernel_rfl) (by kernel_rfl) (fun _ _ _ h => h) (Or.inl ⟨by rfl, ?d31_5xy4⟩) (by assumption) ?d31_5xr4
          case d31_5xy4 => (intro w hSw; (try dsimp only at hSw); go_simp; try with_reducible rfl)
          (try simp only [Act.put])
          (try simp only [List.setIfInBounds_toArray])
          (try simp only [List.set_cons_succ])
          (try simp only [List.set_cons_zero])
          refine wpAnyH_take (i := 5) (oi := { dst := some 85, op := Op.move (Operand.tmp 13), type := 3, pos := "ref.go:107", after := #[], guard := none }) (v := ?d31_6xv5) rfl (by kernel_rfl) (by kernel_rfl) (by kernel_rfl) (fun _ _ _ h => h) (Or.inl ⟨by rfl, ?d31_6xy5⟩) (by assumption) ?d31_6xr5
          case d31_6xy5 => (intro w hSw; (try dsimp only at hSw); go_simp; try with_reducible rfl)
          (try simp only [Act.put])
          (try simp only [List.setIfInBounds_toArray])
          (try simp only [List.set_cons_succ])
          (try simp only [List.set_cons_zero])
          refine wpAnyH_take (i := 6) (oi := { dst := some 86, op := Op.binOp BinOp.add 3 (Operand.tmp 85) (Operand.const (Value.int IntKind.i64 1)) 3, type := 3, pos := "ref.go:107", after := #[{ on := 5, ground := Ground.data }], guard := none }) (v := ?d31_7xv6) rfl (by kernel_rfl) (by kernel_rfl) (by kernel_rfl) (fun _ _ _ h => h) (Or.inl ⟨by rfl, ?d31_7xy6⟩) (by assumption) ?d31_7xr6
          case d31_7xy6 => (intro w hSw; (try dsimp only at hSw); go_simp; try with_reducible rfl)
          (try simp only [Act.put])
          (try simp only [List.setIfInBounds_toArray])
          (try simp only [List.set_cons_succ])
          (try simp only [List.set_cons_zero])
          refine wpAnyH_take (i := 7) (oi := { dst := some 87, op := Op.indexAddr 35 (Operand.tmp 84) (Operand.tmp 86), type := 0, pos := "ref.go:107", after := #[{ on := 4, ground := Ground.data }, { on := 6, ground := Ground.data }], guard := none }) (v := ?d31_8xv7) rfl (by kernel_rfl) (by kernel_rfl) (by kernel_rfl) (fun _ _ _ h => h) (Or.inl ⟨by rfl, ?d31_8xy7⟩) (by assumption) ?d31_8xr7
          case d31_8xy7 => (intro w hSw; (try dsimp only at hSw); go_simp; try with_reducible rfl)
          (try simp only [Act.put])
          (try simp only [List.setIfInBounds_toArray])
          (try simp only [List.set_cons_succ])
          (try simp only [List.set_cons_zero])
          refine wpAnyH_take (i := 8) (oi := { dst := some 88, op := Op.load 47 (Operand.tmp 87), type := 47, pos := "ref.go:107", after := #[{ on := 7, ground := Ground.data }], guard := none }) (v := ?d31_9xv8) rfl (by kernel_rfl) (by kernel_rfl) (by kernel_rfl) (fun _ _ _ h => h) (Or.inl ⟨by rfl, ?d31_9xy8⟩) (by assumption) ?d31_9xr8
          case d31_9xy8 => (intro w hSw; (try dsimp only at hSw); go_simp; try with_reducible rfl)
          (try simp only [Act.put])
          (try simp only [List.setIfInBounds_toArray])
          (try simp only [List.set_cons_succ])
          (try simp only [List.set_cons_zero])
          refine wpAnyH_take (i := 9) (oi := { dst := some 89, op := Op.move (Operand.tmp 1), type := 35, pos := "ref.go:107", after := #[], guard := none }) (v := ?d31_10xv9) rfl (by kernel_rfl) (by kernel_rfl) (by kernel_rfl) (fun _ _ _ h => h) (Or.inl ⟨by rfl, ?d31_10xy9⟩) (by assumption) ?d31_10xr9
          case d31_10xy9 => (intro w hSw; (try dsimp only at hSw); go_simp; try with_reducible rfl)
          (try simp only [Act.put])
          (try simp only [List.setIfInBounds_toArray])
          (try simp only [List.set_cons_succ])
          (try simp only [List.set_cons_zero])
          refine wpAnyH_take (i := 10) (oi := { dst := some 90, op := Op.move (Operand.tmp 13), type := 3, pos := "ref.go:107", after := #[], guard := none }) (v := ?d31_11xv10) rfl (by kernel_rfl) (by kernel_rfl) (by kernel_rfl) (fun _ _ _ h => h) (Or.inl ⟨by rfl, ?d31_11xy10⟩) (by assumption) ?d31_11xr10
          case d31_11xy10 => (intro w hSw; (try dsimp only at hSw); go_simp; try with_reducible rfl)
          (try simp only [Act.put])
          (try simp only [List.setIfInBounds_toArray])
          (try simp only [List.set_cons_succ])
          (try simp only [List.set_cons_zero])
          refine wpAnyH_take (i := 11) (oi := { dst := some 91, op := Op.binOp BinOp.add 3 (Operand.tmp 90) (Operand.const (Value.int IntKind.i64 2)) 3, type := 3, pos := "ref.go:107", after := #[{ on := 10, ground := Ground.data }], guard := none }) (v := ?d31_12xv11) rfl (by kernel_rfl) (by kernel_rfl) (by kernel_rfl) (fun _ _ _ h => h) (Or.inl ⟨by rfl, ?d31_12xy11⟩) (by assumption) ?d31_12xr11
          case d31_12xy11 => (intro w hSw; (try dsimp only at hSw); go_simp; try with_reducible rfl)
          (try simp only [Act.put])
          (try simp only [List.setIfInBounds_toArray])
          (try simp only [List.set_cons_succ])
          (try simp only [List.set_cons_zero])
          refine wpAnyH_take (i := 12) (oi := { dst := some 92, op := Op.indexAddr 35 (Operand.tmp 89) (Operand.tmp 91), type := 0, pos := "ref.go:107", after := #[{ on := 9, ground := Ground.data }, { on := 11, ground := Ground.data }], guard := none }) (v := ?d31_13xv12) rfl (by kernel_rfl) (by kernel_rfl) (by kernel_rfl) (fun _ _ _ h => h) (Or.inl ⟨by rfl, ?d31_13xy12⟩) (by assumption) ?d31_13xr12
          case d31_13xy12 => (intro w hSw; (try dsimp only at hSw); go_simp; try with_reducible rfl)
          (try simp only [Act.put])
          (try simp only [List.setIfInBounds_toArray])
          (try simp only [List.set_cons_succ])
          (try simp only [List.set_cons_zero])
          refine wpAnyH_take (i := 13) (oi := { dst := some 93, op := Op.load 47 (Operand.tmp 92), type := 47, pos := "ref.go:107", after := #[{ on := 12, ground := Ground.data }], guard := none }) (v := ?d31_14xv13) rfl (by kernel_rfl) (by kernel_rfl) (by kernel_rfl) (fun _ _ _ h => h) (Or.inl ⟨by rfl, ?d31_14xy13⟩) (by assumption) ?d31_14xr13
          case d31_14xy13 => (intro w hSw; (try dsimp only at hSw); go_simp; try with_reducible rfl)
          (try simp only [Act.put])
          (try simp only [List.setIfInBounds_toArray])
          (try simp only [List.set_cons_succ])
          (try simp only [List.set_cons_zero])
          refine wpAnyH_take (i := 14) (oi := { dst := some 94, op := Op.build 66 #[(0, Operand.tmp 83), (1, Operand.tmp 88), (2, Operand.tmp 93)], type := 66, pos := "ref.go:107", after := #[{ on := 3, ground := Ground.data }, { on := 8, ground := Ground.data }, { on := 13, ground := Ground.data }], guard := none }) (v := ?d31_15xv14) rfl (by kernel_rfl) (by kernel_rfl) (by kernel_rfl) (fun _ _ _ h => h) (Or.inl ⟨by rfl, ?d31_15xy14⟩) (by assumption) ?d31_15xr14
          case d31_15xy14 => (intro w hSw; (try dsimp only at hSw); go_simp; try with_reducible rfl)
          (try simp only [Act.put])
          (try simp only [List.setIfInBounds_toArray])
          (try simp only [List.set_cons_succ])
          (try simp only [List.set_cons_zero])
          refine wpAnyH_ready (rs := [15, 19]) (by kernel_rfl) (by simp) ?_
          refine AllReadyH.cons (o := { dst := some 95, op := Op.call { callee := Callee.value (Operand.func 26), args := #[Operand.tmp 94], argTypes := #[66] }, type := 67, pos := "ref.go:107", after := #[{ on := 14, ground := Ground.data }], guard := none }) rfl (fun K hK => ?_) ?_
          · skip
            go_simp
            go_at_call 26
            refine (UP.out _).mono ?_
            rintro e v31 ⟨rfl, hb⟩
            replace BV := Lib.hid (BV.out.below (hb))
            replace BB := Lib.hid (BB.out.trans ((hb).mono BB.out.size))
            clear hb
            go_simp
            refine hK.out _ _ ?_ (fun hHeld => ?_)
            · exact ⟨(C1.out _ BB.out).1, (C1.out _ BB.out).2.1, (C1.out _ BB.out).2.2, (C2.out _ BB.out).1, (C2.out _ BB.out).2.1, (C2.out _ BB.out).2.2, (C3.out _ BB.out).1, (C3.out _ BB.out).2.1, (C3.out _ BB.out).2.2⟩
            clear hK K
            (try simp only [Act.put])
            (try simp only [List.setIfInBounds_toArray])
            (try simp only [List.set_cons_succ])
            (try simp only [List.set_cons_zero])
            refine wpAnyH_take (i := 16) (oi := { dst := some 79, op := Op.move (Operand.tmp 95), type := 67, pos := "ref.go:107", after := #[{ on := 15, ground := Ground.data }], guard := none }) (v := ?d32_16xv16) rfl (by kernel_rfl) (by kernel_rfl) (by kernel_rfl) (fun _ _ _ h => h) (Or.inl ⟨by rfl, ?d32_16xy16⟩) (by assumption) ?d32_16xr16
            case d32_16xy16 => (intro w hSw; (try dsimp only at hSw); go_simp; try with_reducible rfl)
            (try simp only [Act.put])
            (try simp only [List.setIfInBounds_toArray])
            (try simp only [List.set_cons_succ])
            (try simp only [List.set_cons_zero])
            refine wpAnyH_take (i := 17) (oi := { dst := some 96, op := Op.extract (Operand.tmp 79) 0, type := 49, pos := "ref.go:107", after := #[{ on := 16, ground := Ground.data }], guard := none }) (v := ?d32_17xv17) rfl (by kernel_rfl) (by kernel_rfl) (by kernel_rfl) (fun _ _ _ h => h) (Or.inl ⟨by rfl, ?d32_17xy17⟩) (by assumption) ?d32_17xr17
            case d32_17xy17 => (intro w hSw; (try dsimp only at hSw); go_simp; try with_reducible rfl)
            (try simp only [Act.put])
            (try simp only [List.setIfInBounds_toArray])
            (try simp only [List.set_cons_succ])
            (try simp only [List.set_cons_zero])
            refine wpAnyH_take (i := 18) (oi := { dst := some 97, op := Op.extract (Operand.tmp 79) 1, type := 4, pos := "ref.go:107", after := #[{ on := 16, ground := Ground.data }, { on := 20, ground := Ground.gcOnly Departure.lateStores }], guard := none }) (v := ?d32_18xv18) rfl (by kernel_rfl) (by kernel_rfl) (by kernel_rfl) (fun _ _ _ h => h) (Or.inl ⟨by rfl, ?d32_18xy18⟩) (by assumption) ?d32_18xr18
            case d32_18xy18 => (intro w hSw; (try dsimp only at hSw); go_simp; try with_reducible rfl)
            (try simp only [Act.put])
            (try simp only [List.setIfInBounds_toArray])
            (try simp only [List.set_cons_succ])
            (try simp only [List.set_cons_zero])
            refine wpAnyH_ready (rs := [19]) (by kernel_rfl) (by simp) ?_
            refine AllReadyH.cons (o := { dst := some 14, op := Op.alloc 49, type := 0, pos := "ref.go:107", after := #[], guard := none }) rfl (fun K hK => ?_) AllReadyH.nil
            go_simp
            have hlt_pe := BB.out.size
            have hle_pe_BV := BV.out.le
            replace BV := Lib.hid (BV.out.below (below_new v31 (.cells #[.int .i64 0, .int .i64 0, .int .u32 0, .int .u32 0, .int .i64 0, .bool false] 49)))
            replace BB := Lib.hid (BB.out.trans ((below_new v31 (.cells #[.int .i64 0, .int .i64 0, .int .u32 0, .int .u32 0, .int .i64 0, .bool false] 49)).mono BB.out.size))
            have EB := Lib.hid (Box.new v31 #[.int .i64 0, .int .i64 0, .int .u32 0, .int .u32 0, .int .i64 0, .bool false] 49 rfl)
            generalize World.alloc v31 (.cells #[.int .i64 0, .int .i64 0, .int .u32 0, .int .u32 0, .int .i64 0, .bool false] 49) = v32 at *
            generalize World.heap v31 = hp_pe at *
            generalize hp_pe.size = pe at *
            refine hK.out _ _ ?_ (fun hHeld => ?_)
            · exact ⟨(C1.out _ BB.out).1, (C1.out _ BB.out).2.1, (C1.out _ BB.out).2.2, (C2.out _ BB.out).1, (C2.out _ BB.out).2.1, (C2.out _ BB.out).2.2, (C3.out _ BB.out).1, (C3.out _ BB.out).2.1, (C3.out _ BB.out).2.2⟩
            clear hK K
            (try simp only [Act.put])
            (try simp only [List.setIfInBounds_toArray])
            (try simp only [List.set_cons_succ])
            (try simp only [List.set_cons_zero])
            refine wpAnyH_ready (rs := [20]) (by kernel_rfl) (by simp) ?_
            refine AllReadyH.cons (o := { dst := none, op := Op.store 49 (Operand.tmp 14) (Operand.tmp 96), type := 0, pos := "ref.go:107", after := #[{ on := 19, ground := Ground.data }, { on := 17, ground := Ground.data }, { on := 15, ground := Ground.chain }, { on := 0, ground := Ground.phase }, { on := 1, ground := Ground.phase }, { on := 2, ground := Ground.phase }, { on := 3, ground := Ground.phase }, { on := 4, ground := Ground.phase }, { on := 5, ground := Ground.phase }, { on := 6, ground := Ground.phase }, { on := 7, ground := Ground.phase }, { on := 8, ground := Ground.phase }, { on := 9, ground := Ground.phase }, { on := 10, ground := Ground.phase }, { on := 11, ground := Ground.phase }, { on := 12, ground := Ground.phase }, { on := 13, ground := Ground.phase }, { on := 14, ground := Ground.phase }, { on := 15, ground := Ground.phase }, { on := 16, ground := Ground.phase }, { on := 17, ground := Ground.phase }, { on := 18, ground := Ground.textOnly Departure.lateStores }, { on := 19, ground := Ground.phase }], guard := none }) rfl (fun K hK => ?_) AllReadyH.nil
            obtain ⟨⟨m0, m1, m2, m3, m4, m5⟩, g0, g1, g2, g3, g4, g5⟩ := EB.out.cells6
            go_simp
            clear m0 g0 m1 g1 m2 g2 m3 g3 m4 g4 m5 g5
            replace BV := Lib.hid (((((((BV.out.put pe (by omega) 0 (.int .i64 e0)).put pe (by omega) 1 (.int .i64 e1)).put pe (by omega) 2 (.int .u32 e2)).put pe (by omega) 3 (.int .u32 e3)).put pe (by omega) 4 (.int .i64 e4)).put pe (by omega) 5 (.bool e5)))
            replace BB := Lib.hid (((((((BB.out).put pe (by omega) 0 (.int .i64 e0)).put pe (by omega) 1 (.int .i64 e1)).put pe (by omega) 2 (.int .u32 e2)).put pe (by omega) 3 (.int .u32 e3)).put pe (by omega) 4 (.int .i64 e4)).put pe (by omega) 5 (.bool e5))
            replace EB := Lib.hid (((((((EB.out).set 0 (.int .i64 e0)).set 1 (.int .i64 e1)).set 2 (.int .u32 e2)).set 3 (.int .u32 e3)).set 4 (.int .i64 e4)).set 5 (.bool e5))
            generalize (World.setCell (World.setCell (World.setCell (World.setCell (World.setCell (World.setCell v32 ⟨pe, 0, none⟩ (.int .i64 e0)) ⟨pe, 1, none⟩ (.int .i64 e1)) ⟨pe, 2, none⟩ (.int .u32 e2)) ⟨pe, 3, none⟩ (.int .u32 e3)) ⟨pe, 4, none⟩ (.int .i64 e4)) ⟨pe, 5, none⟩ (.bool e5)) = v33 at *
            refine hK.out _ _ ?_ (fun hHeld => ?_)
            · exact ⟨(C1.out _ BB.out).1, (C1.out _ BB.out).2.1, (C1.out _ BB.out).2.2, (C2.out _ BB.out).1, (C2.out _ BB.out).2.1, (C2.out _ BB.out).2.2, (C3.out _ BB.out).1, (C3.out _ BB.out).2.1, (C3.out _ BB.out).2.2⟩
            clear hK K
            (try simp only [Act.put])
            (try simp only [List.setIfInBounds_toArray])
            (try simp only [List.set_cons_succ])
            (try simp only [List.set_cons_zero])
            refine wpAnyH_ready (rs := [21]) (by kernel_rfl) (by simp) ?_
            refine AllReadyH.cons (o := { dst := some 15, op := Op.assign (Operand.tmp 97), type := 4, pos := "ref.go:107", after := #[{ on := 18, ground := Ground.data }, { on := 20, ground := Ground.chain }, { on := 0, ground := Ground.phase }, { on := 1, ground := Ground.phase }, { on := 2, ground := Ground.phase }, { on := 3, ground := Ground.phase }, { on := 4, ground := Ground.phase }, { on := 5, ground := Ground.phase }, { on := 6, ground := Ground.phase }, { on := 7, ground := Ground.phase }, { on := 8, ground := Ground.phase }, { on := 9, ground := Ground.phase }, { on := 10, ground := Ground.phase }, { on := 11, ground := Ground.phase }, { on := 12, ground := Ground.phase }, { on := 13, ground := Ground.phase }, { on := 14, ground := Ground.phase }, { on := 15, ground := Ground.phase }, { on := 16, ground := Ground.phase }, { on := 17, ground := Ground.phase }, { on := 18, ground := Ground.phase }, { on := 19, ground := Ground.phase }, { on := 20, ground := Ground.phase }], guard := none }) rfl (fun K hK => ?_) AllReadyH.nil
            go_simp
            refine hK.out _ _ ?_ (fun hHeld => ?_)
            · exact ⟨(C1.out _ BB.out).1, (C1.out _ BB.out).2.1, (C1.out _ BB.out).2.2, (C2.out _ BB.out).1, (C2.out _ BB.out).2.1, (C2.out _ BB.out).2.2, (C3.out _ BB.out).1, (C3.out _ BB.out).2.1, (C3.out _ BB.out).2.2⟩
            clear hK K
            (try simp only [Act.put])
            (try simp only [List.setIfInBounds_toArray])
            (try simp only [List.set_cons_succ])
            (try simp only [List.set_cons_zero])
            refine wpAnyH_done (by kernel_rfl) ?_ _
            go_wp2_with fail
            go_meet
            case rel => exact ⟨_, rfl, rfl, by omega, EB.out, BV.out⟩
          refine AllReadyH.cons (o := { dst := some 14, op := Op.alloc 49, type := 0, pos := "ref.go:107", after := #[], guard := none }) rfl (fun K hK => ?_) AllReadyH.nil
          go_simp
          have hlt_pe := BB.out.size
          have hle_pe_BV := BV.out.le
          replace BV := Lib.hid (BV.out.below (below_new V30 (.cells #[.int .i64 0, .int .i64 0, .int .u32 0, .int .u32 0, .int .i64 0, .bool false] 49)))
          replace BB := Lib.hid (BB.out.trans ((below_new V30 (.cells #[.int .i64 0, .int .i64 0, .int .u32 0, .int .u32 0, .int .i64 0, .bool false] 49)).mono BB.out.size))
          have EB := Lib.hid (Box.new V30 #[.int .i64 0, .int .i64 0, .int .u32 0, .int .u32 0, .int .i64 0, .bool false] 49 rfl)
          generalize World.alloc V30 (.cells #[.int .i64 0, .int .i64 0, .int .u32 0, .int .u32 0, .int .i64 0, .bool false] 49) = v34 at *
          generalize World.heap V30 = hp_pe at *
          generalize hp_pe.size = pe at *
          refine hK.out _ _ ?_ (fun hHeld => ?_)
          · exact ⟨(C1.out _ BB.out).1, (C1.out _ BB.out).2.1, (C1.out _ BB.out).2.2, (C2.out _ BB.out).1, (C2.out _ BB.out).2.1, (C2.out _ BB.out).2.2, (C3.out _ BB.out).1, (C3.out _ BB.out).2.1, (C3.out _ BB.out).2.2⟩
          clear hK K
          (try simp only [Act.put])
          (try simp only [List.setIfInBounds_toArray])
          (try simp only [List.set_cons_succ])
          (try simp only [List.set_cons_zero])
          refine wpAnyH_ready (rs := [15]) (by kernel_rfl) (by simp) ?_
          refine AllReadyH.cons (o := { dst := some 95, op := Op.call { callee := Callee.value (Operand.func 26), args := #[Operand.tmp 94], argTypes := #[66] }, type := 67, pos := "ref.go:107", after := #[{ on := 14, ground := Ground.data }], guard := none }) rfl (fun K hK => ?_) AllReadyH.nil
          go_simp
          go_at_call 26
          refine (UP.out _).mono ?_
          rintro e v35 ⟨rfl, hb⟩
          replace BV := Lib.hid (BV.out.below (hb))
          replace EB := Lib.hid (EB.out.below (hb))
          replace BB := Lib.hid (BB.out.trans ((hb).mono BB.out.size))
          clear hb
          go_simp
          refine hK.out _ _ ?_ (fun hHeld => ?_)
          · exact ⟨(C1.out _ BB.out).1, (C1.out _ BB.out).2.1, (C1.out _ BB.out).2.2, (C2.out _ BB.out).1, (C2.out _ BB.out).2.1, (C2.out _ BB.out).2.2, (C3.out _ BB.out).1, (C3.out _ BB.out).2.1, (C3.out _ BB.out).2.2⟩
          clear hK K
          (try simp only [Act.put])
          (try simp only [List.setIfInBounds_toArray])
          (try simp only [List.set_cons_succ])
          (try simp only [List.set_cons_zero])
          refine wpAnyH_take (i := 16) (oi := { dst := some 79, op := Op.move (Operand.tmp 95), type := 67, pos := "ref.go:107", after := #[{ on := 15, ground := Ground.data }], guard := none }) (v := ?d36_19xv16) rfl (by kernel_rfl) (by kernel_rfl) (by kernel_rfl) (fun _ _ _ h => h) (Or.inl ⟨by rfl, ?d36_19xy16⟩) (by assumption) ?d36_19xr16
          case d36_19xy16 => (intro w hSw; (try dsimp only at hSw); go_simp; try with_reducible rfl)
          (try simp only [Act.put])
          (try simp only [List.setIfInBounds_toArray])
          (try simp only [List.set_cons_succ])
          (try simp only [List.set_cons_zero])
          refine wpAnyH_take (i := 17) (oi := { dst := some 96, op := Op.extract (Operand.tmp 79) 0, type := 49, pos := "ref.go:107", after := #[{ on := 16, ground := Ground.data }], guard := none }) (v := ?d36_20xv17) rfl (by kernel_rfl) (by kernel_rfl) (by kernel_rfl) (fun _ _ _ h => h) (Or.inl ⟨by rfl, ?d36_20xy17⟩) (by assumption) ?d36_20xr17
          case d36_20xy17 => (intro w hSw; (try dsimp only at hSw); go_simp; try with_reducible rfl)
          (try simp only [Act.put])
          (try simp only [List.setIfInBounds_toArray])
          (try simp only [List.set_cons_succ])
          (try simp only [List.set_cons_zero])
          refine wpAnyH_take (i := 18) (oi := { dst := some 97, op := Op.extract (Operand.tmp 79) 1, type := 4, pos := "ref.go:107", after := #[{ on := 16, ground := Ground.data }, { on := 20, ground := Ground.gcOnly Departure.lateStores }], guard := none }) (v := ?d36_21xv18) rfl (by kernel_rfl) (by kernel_rfl) (by kernel_rfl) (fun _ _ _ h => h) (Or.inl ⟨by rfl, ?d36_21xy18⟩) (by assumption) ?d36_21xr18
          case d36_21xy18 => (intro w hSw; (try dsimp only at hSw); go_simp; try with_reducible rfl)
          (try simp only [Act.put])
          (try simp only [List.setIfInBounds_toArray])
          (try simp only [List.set_cons_succ])
          (try simp only [List.set_cons_zero])
          refine wpAnyH_ready (rs := [20]) (by kernel_rfl) (by simp) ?_
          refine AllReadyH.cons (o := { dst := none, op := Op.store 49 (Operand.tmp 14) (Operand.tmp 96), type := 0, pos := "ref.go:107", after := #[{ on := 19, ground := Ground.data }, { on := 17, ground := Ground.data }, { on := 15, ground := Ground.chain }, { on := 0, ground := Ground.phase }, { on := 1, ground := Ground.phase }, { on := 2, ground := Ground.phase }, { on := 3, ground := Ground.phase }, { on := 4, ground := Ground.phase }, { on := 5, ground := Ground.phase }, { on := 6, ground := Ground.phase }, { on := 7, ground := Ground.phase }, { on := 8, ground := Ground.phase }, { on := 9, ground := Ground.phase }, { on := 10, ground := Ground.phase }, { on := 11, ground := Ground.phase }, { on := 12, ground := Ground.phase }, { on := 13, ground := Ground.phase }, { on := 14, ground := Ground.phase }, { on := 15, ground := Ground.phase }, { on := 16, ground := Ground.phase }, { on := 17, ground := Ground.phase }, { on := 18, ground := Ground.textOnly Departure.lateStores }, { on := 19, ground := Ground.phase }], guard := none }) rfl (fun K hK => ?_) AllReadyH.nil
          obtain ⟨⟨m0, m1, m2, m3, m4, m5⟩, g0, g1, g2, g3, g4, g5⟩ := EB.out.cells6
          go_simp
          clear m0 g0 m1 g1 m2 g2 m3 g3 m4 g4 m5 g5
          replace BV := Lib.hid (((((((BV.out.put pe (by omega) 0 (.int .i64 e0)).put pe (by omega) 1 (.int .i64 e1)).put pe (by omega) 2 (.int .u32 e2)).put pe (by omega) 3 (.int .u32 e3)).put pe (by omega) 4 (.int .i64 e4)).put pe (by omega) 5 (.bool e5)))
          replace BB := Lib.hid (((((((BB.out).put pe (by omega) 0 (.int .i64 e0)).put pe (by omega) 1 (.int .i64 e1)).put pe (by omega) 2 (.int .u32 e2)).put pe (by omega) 3 (.int .u32 e3)).put pe (by omega) 4 (.int .i64 e4)).put pe (by omega) 5 (.bool e5))
          replace EB := Lib.hid (((((((EB.out).set 0 (.int .i64 e0)).set 1 (.int .i64 e1)).set 2 (.int .u32 e2)).set 3 (.int .u32 e3)).set 4 (.int .i64 e4)).set 5 (.bool e5))
          generalize (World.setCell (World.setCell (World.setCell (World.setCell (World.setCell (World.setCell v35 ⟨pe, 0, none⟩ (.int .i64 e0)) ⟨pe, 1, none⟩ (.int .i64 e1)) ⟨pe, 2, none⟩ (.int .u32 e2)) ⟨pe, 3, none⟩ (.int .u32 e3)) ⟨pe, 4, none⟩ (.int .i64 e4)) ⟨pe, 5, none⟩ (.bool e5)) = v36 at *
          refine hK.out _ _ ?_ (fun hHeld => ?_)
          · exact ⟨(C1.out _ BB.out).1, (C1.out _ BB.out).2.1, (C1.out _ BB.out).2.2, (C2.out _ BB.out).1, (C2.out _ BB.out).2.1, (C2.out _ BB.out).2.2, (C3.out _ BB.out).1, (C3.out _ BB.out).2.1, (C3.out _ BB.out).2.2⟩
          clear hK K
          (try simp only [Act.put])
          (try simp only [List.setIfInBounds_toArray])
          (try simp only [List.set_cons_succ])
          (try simp only [List.set_cons_zero])
          refine wpAnyH_ready (rs := [21]) (by kernel_rfl) (by simp) ?_
          refine AllReadyH.cons (o := { dst := some 15, op := Op.assign (Operand.tmp 97), type := 4, pos := "ref.go:107", after := #[{ on := 18, ground := Ground.data }, { on := 20, ground := Ground.chain }, { on := 0, ground := Ground.phase }, { on := 1, ground := Ground.phase }, { on := 2, ground := Ground.phase }, { on := 3, ground := Ground.phase }, { on := 4, ground := Ground.phase }, { on := 5, ground := Ground.phase }, { on := 6, ground := Ground.phase }, { on := 7, ground := Ground.phase }, { on := 8, ground := Ground.phase }, { on := 9, ground := Ground.phase }, { on := 10, ground := Ground.phase }, { on := 11, ground := Ground.phase }, { on := 12, ground := Ground.phase }, { on := 13, ground := Ground.phase }, { on := 14, ground := Ground.phase }, { on := 15, ground := Ground.phase }, { on := 16, ground := Ground.phase }, { on := 17, ground := Ground.phase }, { on := 18, ground := Ground.phase }, { on := 19, ground := Ground.phase }, { on := 20, ground := Ground.phase }], guard := none }) rfl (fun K hK => ?_) AllReadyH.nil
          go_simp
          refine hK.out _ _ ?_ (fun hHeld => ?_)
          · exact ⟨(C1.out _ BB.out).1, (C1.out _ BB.out).2.1, (C1.out _ BB.out).2.2, (C2.out _ BB.out).1, (C2.out _ BB.out).2.1, (C2.out _ BB.out).2.2, (C3.out _ BB.out).1, (C3.out _ BB.out).2.1, (C3.out _ BB.out).2.2⟩
          clear hK K
          (try simp only [Act.put])
          (try simp only [List.setIfInBounds_toArray])
          (try simp only [List.set_cons_succ])
          (try simp only [List.set_cons_zero])
          refine wpAnyH_done (by kernel_rfl) ?_ _
          go_wp2_with fail
          go_meet
          case rel => exact ⟨_, rfl, rfl, by omega, EB.out, BV.out⟩
          -- END14
        case rest =>
          obtain ⟨pe, rfl, rfl, hpe, h1, h2⟩ := hcut
          have EB := Lib.hid h1
          have h3 : Below wr.heap.size wr wc := h2
          replace P2 := Lib.hid (P2.out.below h3)
          replace R6 := Lib.hid (R6.out.below h3)
          replace L11 := Lib.hid (L11.out.below h3)
          replace R := Lib.hid (R.out.below h3)
          replace BB := Lib.hid (BB.out.trans (h3.mono BB.out.size))
          clear h1 h2 h3 B0 RB BV C1 C2 C3 UP q1 q2 q3 q4 q5 q6 q7 q8 q9 q10 q11
          -- DRIVE15
          cases zz with
          | false =>
            have e : sb = false := by rw [← HS.out, allA_no hlt HZ.out]; rfl
            subst e
            have e : r = 5 := by rw [HD.out, if_neg (by decide)]
            subst e
            clear HD HE HS
            have k0 := R6.out.cell 0
            have k1 := R6.out.cell 1
            have k2 := R6.out.cell 2
            have k3 := R6.out.cell 3
            simp at k0 k1 k2 k3
            have f0 := R6.out.free 0
            have f1 := R6.out.free 1
            have f2 := R6.out.free 2
            have f3 := R6.out.free 3
            have l0 := R6.out.lt
            go_upto_region 16 with fail
            iterate 15 (first | go_values | go_skip | go_guarded | go_step | go_upon | go_back)
            replace R6 : Hid (Box ((((wc.setCell ⟨q + 1, 0, none⟩ (.int .i64 0)).setCell ⟨q + 1, 1, none⟩ (.int .i64 0)).setCell ⟨q + 1, 2, none⟩ (.int .i64 0)).setCell ⟨q + 1, 3, none⟩ (.slice none 0 0)) (q + 1) #[.int .i64 0, .int .i64 0, .int .i64 0, .slice none 0 0] 39) := Lib.hid ((((R6.out.set 0 _).set 1 _).set 2 _).set 3 _)
            replace BB : Hid (Below w.heap.size w ((((wc.setCell ⟨q + 1, 0, none⟩ (.int .i64 0)).setCell ⟨q + 1, 1, none⟩ (.int .i64 0)).setCell ⟨q + 1, 2, none⟩ (.int .i64 0)).setCell ⟨q + 1, 3, none⟩ (.slice none 0 0))) := Lib.hid ((((BB.out.setCell (show w.heap.size ≤ q + 1 by have := HQ.out; omega) _).setCell (show w.heap.size ≤ q + 1 by have := HQ.out; omega) _).setCell (show w.heap.size ≤ q + 1 by have := HQ.out; omega) _).setCell (show w.heap.size ≤ q + 1 by have := HQ.out; omega) _)
            generalize ((((wc.setCell ⟨q + 1, 0, none⟩ (.int .i64 0)).setCell ⟨q + 1, 1, none⟩ (.int .i64 0)).setCell ⟨q + 1, 2, none⟩ (.int .i64 0)).setCell ⟨q + 1, 3, none⟩ (.slice none 0 0)) = W7 at *
            clear k0 k1 k2 k3 f0 f1 f2 f3 l0
            have k0 := R6.out.cell 0
            have k1 := R6.out.cell 1
            have k2 := R6.out.cell 2
            have k3 := R6.out.cell 3
            simp at k0 k1 k2 k3
            exact bodyPost_ret (v := .tuple #[.agg #[.int .i64 0, .int .i64 0, .int .i64 0, .slice none 0 0], .bool false]) (by simp [results, Tryd.f24, go_sem, k0, k1, k2, k3]) rfl (RdOut.no HR.out (by decide) BB.out)
          | true =>
            have e := HEN.out
            rw [if_pos (by trivial)] at e
            rw [e] at ES1
            clear e HEN
            have z0 := EB.out.cell 0
            have z1 := EB.out.cell 1
            have z2 := EB.out.cell 2
            have z3 := EB.out.cell 3
            have z4 := EB.out.cell 4
            have z5 := EB.out.cell 5
            simp at z0 z1 z2 z3 z4 z5
            have k0 := L11.out.cell 0
            have k1 := L11.out.cell 1
            have k2 := L11.out.cell 2
            have k3 := L11.out.cell 3
            simp at k0 k1 k2 k3
            have E3 := Lib.hid (SK.ofBox (E := enE) (Box.new wc #[.int .i64 e0, .int .i64 e1, .int .u32 e2, .int .u32 e3, .int .i64 e4, .bool e5] 49 rfl) (L := [(e0, (e1, e2, e3), e4, e5)]) (n := 1) (cap := 1) rfl rfl (Nat.le_refl _))
            have RA := Lib.hid (R6.out.alloc (.cells #[.int .i64 e0, .int .i64 e1, .int .u32 e2, .int .u32 e3, .int .i64 e4, .bool e5] 49))
            have PA := Lib.hid (P2.out.alloc (.cells #[.int .i64 e0, .int .i64 e1, .int .u32 e2, .int .u32 e3, .int .i64 e4, .bool e5] 49))
            have LA := Lib.hid (L11.out.alloc (.cells #[.int .i64 e0, .int .i64 e1, .int .u32 e2, .int .u32 e3, .int .i64 e4, .bool e5] 49))
            have MA := Lib.hid (R.out.below (below1 wc (.cells #[.int .i64 e0, .int .i64 e1, .int .u32 e2, .int .u32 e3, .int .i64 e4, .bool e5] 49)))
            have BA := Lib.hid (BB.out.alloc BB.out.size (.cells #[.int .i64 e0, .int .i64 e1, .int .u32 e2, .int .u32 e3, .int .i64 e4, .bool e5] 49))
            go_wp2_with (first
              | (at_builtin; refine wpList_appK (w0 := w) Tryd.underlying23 infoEn rfl (by decide) _ rfl (.tmp 102) (.tmp 104) rfl rfl BA.out MA.out rfl E3.out (by simp; rw [EL.out]; omega) ?_; intro v3 w3 rr3 b3 g3; obtain ⟨a6, c6, e6⟩ : ∃ a c, v3 = .slice a (i + 1) c := (by obtain ⟨a, c, h, _⟩ := rr3.form; exact ⟨a, c, by rw [h, List.length_append, EL.out]; rfl⟩); subst e6; have R3 := Lib.hid rr3; have B3 := Lib.hid b3; have L3 := Lib.hid (LA.out.grown g3 (box_not_rowK MA.out LA.out (by decide))); have RR3 := Lib.hid (RA.out.grown g3 (box_not_rowK MA.out RA.out (by decide))); have PP3 := Lib.hid (PA.out.grown g3 (box_not_rowK MA.out PA.out (by decide))); have m3 := L3.out.cell 3; have n3 := L3.out.free 3; have o3 := L3.out.lt; simp at m3; clear rr3 b3 g3)
              | fail)
            go_roundw
            case rel =>
              refine ⟨i + 1, _, by omega, by go_num, fun j hj => ?_, L3.out.set 3 _, by rw [ES1.out]; exact R3.out.otherSet (box_not_rowK R3.out L3.out (by decide)) 3 _, RR3.out.other (by have := GQ.out; omega) 3 _, PP3.out.other (by have := GQ.out; omega) 3 _, B3.out.setCell (show w.heap.size ≤ g by have := GQ.out; have := HQ.out; omega) _⟩
              by_cases e : j = i
              · subst e; exact HZ.out
              · exact NO.out j (by omega)
            case measure => simp [intOf]; omega
          -- END15
      · obtain rfl : i = k := by omega
        have ALL := allA_yes NO.out
        rw [ALL, Bool.true_and] at HS
        clear ALL NO hlt
        have EL := Lib.hid (entsA_len D i)
        obtain ⟨ra, rc, e6, _⟩ := R.out.form
        rw [EL.out] at e6
        subst e6
        have SI := Lib.hid (st_iff OK.out a x1 x0 (entsA D i) (fun d => wordsD d = D.take (wordsD d).length))
        rw [HST.out] at SI
        try simp only at SI
        have RFX := Lib.hid (fun W h h1 => RF.out x1 st (.slice ra i rc) (entsA D i) W h h1 (by rw [EL.out]; omega))
        have RW := Lib.hid (rwords_any a x1 st _ (entsA D i) wr R.out.sk (by rw [EL.out]; omega))
        have CZ := Lib.hid (chkD_zero OK.out a x1 st (entsA D i))
        have WL := Lib.hid (wordsD_len (a, x1, st, entsA D i))
        try simp only at WL
        rw [EL.out] at WL
        obtain ⟨E, hE⟩ : ∃ x, entsA D i = x := ⟨_, rfl⟩
        rw [hE] at EL SI RFX RW CZ WL R HS HE
        clear hE
        have XW := Lib.hid (show wordsD (a, x1, st, E) = wordsD (a, x1, st, E) from rfl)
        obtain ⟨X, hX⟩ : ∃ x, wordsD (a, x1, st, E) = x := ⟨_, rfl⟩
        rw [hX] at WL RW SI
        clear hX XW
        obtain ⟨xl, hxl⟩ : ∃ x, 2 + 3 * i = x := ⟨_, rfl⟩
        have hxn : p + xl ≤ n := by omega
        rw [hxl] at WL
        rw [WL.out] at SI
        have KS : Hid (sb = true ↔ (chkD T C B (a, x1, st, E) = 0 ∧ X = D.take xl)) := Lib.hid (by
          rw [← HS.out, Bool.and_eq_true, decide_eq_true_eq, decide_eq_true_eq]
          exact SI.out.symm)
        clear SI HS
        have k0 := L11.out.cell 0
        have k1 := L11.out.cell 1
        have k2 := L11.out.cell 2
        have k3 := L11.out.cell 3
        simp at k0 k1 k2 k3
        go_wp2_with fail
        refine RW.out.mono ?_
        rintro e w3 ⟨u2, rfl, hr, hb⟩
        have SX := Lib.hid hr.sk
        obtain ⟨ua, uc, rfl, _⟩ := hr.form
        rw [WL.out] at SX ⊢
        replace P2 := Lib.hid (P2.out.below hb)
        replace R6 := Lib.hid (R6.out.below hb)
        replace L11 := Lib.hid (L11.out.below hb)
        replace R := Lib.hid (R.out.below hb)
        replace BB := Lib.hid (BB.out.trans (hb.mono BB.out.size))
        clear hb hr RW k0 k1 k2 k3
        have qN := neqW
        have gP := guardW
        go_wp2_with fail
        go_loopw [17] (fun iv wz => ∃ j : Nat, j ≤ xl ∧ iv = .int .i64 j ∧ (∀ t, t < j → D[t]! = X[t]!) ∧ Lat w3 wz) (fun iv _ => xl - (intOf iv).toNat)
        case atStart => exact ⟨0, by omega, rfl, fun t ht => by omega, Below.refl _ _⟩
        case round =>
          obtain ⟨j, hj, rfl, hs, hb⟩ := hrel
          have h3 : Below w3.heap.size w3 wr := hb
          have HSJ := Lib.hid hs
          replace P2 := Lib.hid (P2.out.below h3)
          replace R6 := Lib.hid (R6.out.below h3)
          replace L11 := Lib.hid (L11.out.below h3)
          replace R := Lib.hid (R.out.below h3)
          replace BB := Lib.hid (BB.out.trans (h3.mono BB.out.size))
          have B3 := Lib.hid h3
          clear hb hs h3
          by_cases hlt : j < xl
          · obtain ⟨b2, off2, rfl, hbl2, hln2, hc2⟩ := SX.out.addr (k := j) (by first | exact hlt | (rw [WL.out]; exact hlt))
            obtain ⟨d0, d1, d2⟩ := wd_cells hc2 (k := j) (by first | (rw [hln2]; exact hlt) | (rw [hln2, WL.out]; exact hlt))
            rw [← B3.out.cell (p := ⟨b2, _, none⟩) hbl2] at d0 d1 d2
            obtain ⟨c0, c1, c2⟩ := CD.out _ BB.out j (by omega)
            clear hc2 hln2
            have HEQ := Lib.hid (eqW_dec (D[j]!) (X[j]!))
            obtain ⟨y, hy⟩ : ∃ y, D[j]! = y := ⟨_, rfl⟩
            obtain ⟨z, hz⟩ : ∃ y, X[j]! = y := ⟨_, rfl⟩
            rw [hy] at c0 c1 c2 HEQ
            rw [hz] at d0 d1 d2 HEQ
            have HYY := Lib.hid hy
            have HZZ := Lib.hid hz
            clear hy hz
            obtain ⟨y0, y1, y2⟩ := y
            obtain ⟨z0, z1, z2⟩ := z
            simp only at c0 c1 c2 d0 d1 d2
            have q1 : IntKind.i64.wrap ((p : Int) + (j : Int)) = (p : Int) + (j : Int) := IntWalk.i64_in _ (by omega)
            have q2 : (p : Int) + (j : Int) < (n : Int) := by omega
            have q3 : (0 : Int) ≤ (p : Int) + (j : Int) := by omega
            cases he : eqW (y0, y1, y2) (z0, z1, z2) with
            | true =>
              rw [he] at HEQ
              go_wp2_with fail
              go_quiet (fail)
              go_wp2
              go_roundw
              case rel =>
                refine ⟨j + 1, by omega, by go_num, fun t ht => ?_, below_drewN B3.out _⟩
                by_cases e : t = j
                · subst e; rw [HYY.out, HZZ.out]; exact of_decide_eq_true HEQ.out.symm
                · exact HSJ.out t (by omega)
              case measure => simp [intOf]; omega
            | false =>
              rw [he] at HEQ
              have e : sb = false := Bool.eq_false_iff.2 (fun h => by
                have h2 := congrArg (·[j]!) (KS.out.1 h).2
                rw [take_at (by rw [NL.out]; omega) hlt, HYY.out, HZZ.out] at h2
                exact absurd h2.symm (of_decide_eq_false HEQ.out.symm))
              subst e
              have e : r = 5 := by rw [HD.out, if_neg (by decide)]
              subst e
              clear HD HE KS
              go_wp2_with fail
              go_quiet (fail)
              replace R6 := Lib.hid (R6.out.below (below_drewN (Below.refl wr.heap.size wr) nq))
              replace BB := Lib.hid (below_drewN BB.out nq)
              clear P2 L11 R B3 c0 c1 c2 d0 d1 d2
              generalize wr.drewN nq = W8 at *
              have k0 := R6.out.cell 0
              have k1 := R6.out.cell 1
              have k2 := R6.out.cell 2
              have k3 := R6.out.cell 3
              simp at k0 k1 k2 k3
              have f0 := R6.out.free 0
              have f1 := R6.out.free 1
              have f2 := R6.out.free 2
              have f3 := R6.out.free 3
              have l0 := R6.out.lt
              go_upto_region 23 with fail
              iterate 17 (first | go_values | go_skip | go_guarded | go_step | go_upon | go_back)
              replace R6 : Hid (Box ((((W8.setCell ⟨q + 1, 0, none⟩ (.int .i64 0)).setCell ⟨q + 1, 1, none⟩ (.int .i64 0)).setCell ⟨q + 1, 2, none⟩ (.int .i64 0)).setCell ⟨q + 1, 3, none⟩ (.slice none 0 0)) (q + 1) #[.int .i64 0, .int .i64 0, .int .i64 0, .slice none 0 0] 39) := Lib.hid ((((R6.out.set 0 _).set 1 _).set 2 _).set 3 _)
              replace BB : Hid (Below w.heap.size w ((((W8.setCell ⟨q + 1, 0, none⟩ (.int .i64 0)).setCell ⟨q + 1, 1, none⟩ (.int .i64 0)).setCell ⟨q + 1, 2, none⟩ (.int .i64 0)).setCell ⟨q + 1, 3, none⟩ (.slice none 0 0))) := Lib.hid ((((BB.out.setCell (show w.heap.size ≤ q + 1 by have := HQ.out; omega) _).setCell (show w.heap.size ≤ q + 1 by have := HQ.out; omega) _).setCell (show w.heap.size ≤ q + 1 by have := HQ.out; omega) _).setCell (show w.heap.size ≤ q + 1 by have := HQ.out; omega) _)
              generalize ((((W8.setCell ⟨q + 1, 0, none⟩ (.int .i64 0)).setCell ⟨q + 1, 1, none⟩ (.int .i64 0)).setCell ⟨q + 1, 2, none⟩ (.int .i64 0)).setCell ⟨q + 1, 3, none⟩ (.slice none 0 0)) = W7 at *
              clear k0 k1 k2 k3 f0 f1 f2 f3 l0
              have k0 := R6.out.cell 0
              have k1 := R6.out.cell 1
              have k2 := R6.out.cell 2
              have k3 := R6.out.cell 3
              simp at k0 k1 k2 k3
              exact bodyPost_ret (v := .tuple #[.agg #[.int .i64 0, .int .i64 0, .int .i64 0, .slice none 0 0], .bool false]) (by simp [results, Tryd.f24, go_sem, k0, k1, k2, k3]) rfl (RdOut.no HR.out (by decide) BB.out)
          · obtain rfl : j = xl := by omega
            have XT := eq_take (by rw [NL.out]; omega) WL.out HSJ.out
            obtain ⟨cb, hcb⟩ : ∃ x, decide (chkD T C B (a, x1, st, E) = 0) = x := ⟨_, rfl⟩
            have KB : Hid (sb = cb) := Lib.hid (by
              rw [Bool.eq_iff_iff, KS.out, ← hcb, decide_eq_true_eq]
              exact ⟨fun h => h.1, fun h => ⟨h, XT⟩⟩)
            rw [hcb] at RFX
            have HCB := Lib.hid hcb
            clear hcb XT KS HSJ SX CD C0 D0 OD
            have NE : Hid (some (q + 1) ≠ (Value.slice ra i rc).ownBlock) := Lib.hid (box_not_rowK R.out R6.out (by decide))
            have hgq := GQ.out
            have hqq := HQ.out
            go_upto_region 24 with fail
            replace P2 := Lib.hid (P2.out.below ((Below.refl _ _).drew))
            replace R6 := Lib.hid (R6.out.below ((Below.refl _ _).drew))
            replace L11 := Lib.hid (L11.out.below ((Below.refl _ _).drew))
            replace R := Lib.hid (R.out.below ((Below.refl _ _).drew))
            replace BB := Lib.hid (BB.out.trans (((Below.refl _ _).drew).mono BB.out.size))
            refine wp_region_held_drew (S := fun w' => w'.cell? ⟨q, 0, none⟩ = some (.int .i64 T) ∧ w'.cell? ⟨q, 1, none⟩ = some (.int .i64 B) ∧ w'.cell? ⟨q, 2, none⟩ = some (.int .i64 s4) ∧ w'.cell? ⟨q, 3, none⟩ = some (.int .i64 rm) ∧ w'.cell? ⟨q, 4, none⟩ = some (.int .i64 104) ∧ w'.cell? ⟨q, 5, none⟩ = some (.int .i64 32) ∧ w'.cell? ⟨q, 6, none⟩ = some (.slice pua pn puc) ∧ w'.cell? ⟨q, 7, none⟩ = some (.int .i64 pn) ∧ w'.cell? ⟨g, 0, none⟩ = some (.int .i64 a) ∧ w'.cell? ⟨g, 1, none⟩ = some (.int .i64 x1) ∧ w'.cell? ⟨g, 2, none⟩ = some (.int .i64 st) ∧ w'.cell? ⟨g, 3, none⟩ = some (.slice ra i rc)) (by kernel_rfl) ⟨(P2.out.cell 0), (P2.out.cell 1), (P2.out.cell 2), (P2.out.cell 3), (P2.out.cell 4), (P2.out.cell 5), (P2.out.cell 6), (P2.out.cell 7), (L11.out.cell 0), (L11.out.cell 1), (L11.out.cell 2), (L11.out.cell 3)⟩ (fun hHeld => ?_)
            generalize World.drew wr = V60 at *
            refine wpAnyH_take (i := 0) (oi := { dst := some 127, op := Op.load 39 (Operand.tmp 11), type := 39, pos := "ref.go:119", after := #[], guard := none }) (v := ?d61_1xv0) rfl (by kernel_rfl) (by kernel_rfl) (by kernel_rfl) (fun _ _ _ h => h) (Or.inl ⟨by rfl, ?d61_1xy0⟩) (by assumption) ?d61_1xr0
            case d61_1xy0 => (intro w hSw; (try dsimp only at hSw); go_simp; try with_reducible rfl)
            (try simp only [Act.put])
            (try simp only [List.setIfInBounds_toArray])
            (try simp only [List.set_cons_succ])
            (try simp only [List.set_cons_zero])
            refine wpAnyH_take (i := 1) (oi := { dst := some 128, op := Op.load 32 (Operand.tmp 3), type := 32, pos := "ref.go:119", after := #[], guard := none }) (v := ?d61_2xv1) rfl (by kernel_rfl) (by kernel_rfl) (by kernel_rfl) (fun _ _ _ h => h) (Or.inl ⟨by rfl, ?d61_2xy1⟩) (by assumption) ?d61_2xr1
            case d61_2xy1 => (intro w hSw; (try dsimp only at hSw); go_simp; try with_reducible rfl)
            (try simp only [Act.put])
            (try simp only [List.setIfInBounds_toArray])
            (try simp only [List.set_cons_succ])
            (try simp only [List.set_cons_zero])
            refine wpAnyH_take (i := 2) (oi := { dst := some 129, op := Op.load 39 (Operand.tmp 11), type := 39, pos := "ref.go:119", after := #[], guard := none }) (v := ?d61_3xv2) rfl (by kernel_rfl) (by kernel_rfl) (by kernel_rfl) (fun _ _ _ h => h) (Or.inl ⟨by rfl, ?d61_3xy2⟩) (by assumption) ?d61_3xr2
            case d61_3xy2 => (intro w hSw; (try dsimp only at hSw); go_simp; try with_reducible rfl)
            (try simp only [Act.put])
            (try simp only [List.setIfInBounds_toArray])
            (try simp only [List.set_cons_succ])
            (try simp only [List.set_cons_zero])
            refine wpAnyH_ready (rs := [3]) (by kernel_rfl) (by simp) ?_
            refine AllReadyH.cons (o := { dst := some 130, op := Op.call { callee := Callee.value (Operand.func 17), args := #[Operand.tmp 128, Operand.tmp 129], argTypes := #[32, 39] }, type := 4, pos := "ref.go:119", after := #[{ on := 1, ground := Ground.data }, { on := 2, ground := Ground.data }], guard := none }) rfl (fun K hK => ?_) AllReadyH.nil
            go_simp
            go_at_call 17
            refine (RFX.out _ BB.out R.out.sk).mono ?_
            rintro e v61 ⟨rfl, hb⟩
            replace P2 := Lib.hid (P2.out.below (hb))
            replace R6 := Lib.hid (R6.out.below (hb))
            replace L11 := Lib.hid (L11.out.below (hb))
            replace R := Lib.hid (R.out.below (hb))
            replace BB := Lib.hid (BB.out.trans ((hb).mono BB.out.size))
            clear hb
            go_simp
            refine hK.out _ _ ?_ (fun hHeld => ?_)
            · exact ⟨(P2.out.cell 0), (P2.out.cell 1), (P2.out.cell 2), (P2.out.cell 3), (P2.out.cell 4), (P2.out.cell 5), (P2.out.cell 6), (P2.out.cell 7), (L11.out.cell 0), (L11.out.cell 1), (L11.out.cell 2), (L11.out.cell 3)⟩
            clear hK K
            (try simp only [Act.put])
            (try simp only [List.setIfInBounds_toArray])
            (try simp only [List.set_cons_succ])
            (try simp only [List.set_cons_zero])
            refine wpAnyH_ready (rs := [4]) (by kernel_rfl) (by simp) ?_
            refine AllReadyH.cons (o := { dst := none, op := Op.store 39 (Operand.tmp 6) (Operand.tmp 127), type := 0, pos := "ref.go:119", after := #[{ on := 0, ground := Ground.data }, { on := 3, ground := Ground.chain }, { on := 0, ground := Ground.phase }, { on := 1, ground := Ground.textOnly Departure.lateStores }, { on := 2, ground := Ground.textOnly Departure.lateStores }, { on := 3, ground := Ground.textOnly Departure.lateStoresUnsure }], guard := none }) rfl (fun K hK => ?_) AllReadyH.nil
            obtain ⟨⟨m0, m1, m2, m3⟩, g0, g1, g2, g3⟩ := R6.out.cells4
            go_simp
            clear m0 g0 m1 g1 m2 g2 m3 g3
            replace P2 := Lib.hid (P2.out.only (by omega) (((((Only.refl (q + 1) v61).set 0 (.int .i64 a)).set 1 (.int .i64 x1)).set 2 (.int .i64 st)).set 3 (.slice ra i rc)))
            replace L11 := Lib.hid (L11.out.only (by omega) (((((Only.refl (q + 1) v61).set 0 (.int .i64 a)).set 1 (.int .i64 x1)).set 2 (.int .i64 st)).set 3 (.slice ra i rc)))
            replace R := Lib.hid (((((R.out.otherSet NE.out 0 (.int .i64 a)).otherSet NE.out 1 (.int .i64 x1)).otherSet NE.out 2 (.int .i64 st)).otherSet NE.out 3 (.slice ra i rc)))
            replace BB := Lib.hid (((((BB.out).put (q + 1) (by omega) 0 (.int .i64 a)).put (q + 1) (by omega) 1 (.int .i64 x1)).put (q + 1) (by omega) 2 (.int .i64 st)).put (q + 1) (by omega) 3 (.slice ra i rc))
            replace R6 := Lib.hid (((((R6.out).set 0 (.int .i64 a)).set 1 (.int .i64 x1)).set 2 (.int .i64 st)).set 3 (.slice ra i rc))
            generalize (World.setCell (World.setCell (World.setCell (World.setCell v61 ⟨(q + 1), 0, none⟩ (.int .i64 a)) ⟨(q + 1), 1, none⟩ (.int .i64 x1)) ⟨(q + 1), 2, none⟩ (.int .i64 st)) ⟨(q + 1), 3, none⟩ (.slice ra i rc)) = v62 at *
            refine hK.out _ _ ?_ (fun hHeld => ?_)
            · exact ⟨(P2.out.cell 0), (P2.out.cell 1), (P2.out.cell 2), (P2.out.cell 3), (P2.out.cell 4), (P2.out.cell 5), (P2.out.cell 6), (P2.out.cell 7), (L11.out.cell 0), (L11.out.cell 1), (L11.out.cell 2), (L11.out.cell 3)⟩
            clear hK K
            (try simp only [Act.put])
            (try simp only [List.setIfInBounds_toArray])
            (try simp only [List.set_cons_succ])
            (try simp only [List.set_cons_zero])
            refine wpAnyH_ready (rs := [5]) (by kernel_rfl) (by simp) ?_
            refine AllReadyH.cons (o := { dst := some 7, op := Op.assign (Operand.tmp 130), type := 4, pos := "ref.go:119", after := #[{ on := 3, ground := Ground.data }, { on := 4, ground := Ground.chain }, { on := 0, ground := Ground.phase }, { on := 1, ground := Ground.phase }, { on := 2, ground := Ground.phase }, { on := 3, ground := Ground.phase }, { on := 4, ground := Ground.phase }], guard := none }) rfl (fun K hK => ?_) AllReadyH.nil
            go_simp
            refine hK.out _ _ ?_ (fun hHeld => ?_)
            · exact ⟨(P2.out.cell 0), (P2.out.cell 1), (P2.out.cell 2), (P2.out.cell 3), (P2.out.cell 4), (P2.out.cell 5), (P2.out.cell 6), (P2.out.cell 7), (L11.out.cell 0), (L11.out.cell 1), (L11.out.cell 2), (L11.out.cell 3)⟩
            clear hK K
            (try simp only [Act.put])
            (try simp only [List.setIfInBounds_toArray])
            (try simp only [List.set_cons_succ])
            (try simp only [List.set_cons_zero])
            refine wpAnyH_done (by kernel_rfl) ?_ _
            iterate 3 (first | go_values | go_skip | go_guarded | go_step | go_upon | go_back)
            have k0 := R6.out.cell 0
            have k1 := R6.out.cell 1
            have k2 := R6.out.cell 2
            have k3 := R6.out.cell 3
            simp at k0 k1 k2 k3
            cases cb with
            | false =>
              have e : r = 5 := by rw [HD.out, if_neg (by rw [KB.out]; decide)]
              subst e
              exact bodyPost_ret (v := .tuple #[.agg #[.int .i64 a, .int .i64 x1, .int .i64 st, .slice ra i rc], .bool false]) (by simp [results, Tryd.f24, go_sem, k0, k1, k2, k3]) rfl (RdOut.no HR.out (by decide) BB.out)
            | true =>
              have e : r = 0 := by rw [HD.out, if_pos KB.out]
              subst e
              have e := HE.out
              rw [if_pos rfl] at e
              have hst : st = x0 := by
                have h := CZ.out.1 (of_decide_eq_true HCB.out)
                have h2 := HST.out
                unfold stI at h2
                by_cases h3 : 0 ≤ x0 ∧ x0 ≤ 3
                · rw [if_pos h3] at h2; exact h2.symm
                · rw [if_neg h3] at h2; omega
              exact bodyPost_ret (v := .tuple #[.agg #[.int .i64 a, .int .i64 x1, .int .i64 st, .slice ra i rc], .bool true]) (by simp [results, Tryd.f24, go_sem, k0, k1, k2, k3]) rfl (RdOut.yes HR.out (by rw [e, hst]) EL.out R.out.sk BB.out)
end Go.Proofs.YtfegeahieajmkaaDoor
