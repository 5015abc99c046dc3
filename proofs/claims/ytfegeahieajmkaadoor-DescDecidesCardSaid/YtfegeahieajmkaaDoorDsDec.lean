/- desc.decode. -/
import Derived.Test.YtfegeahieajmkaaDoorDsWords
import Derived.Deep.DeepCutAuto
import Derived.Laws.Cover3
namespace Go.Proofs.YtfegeahieajmkaaDoor
open Go.ChangeShapes Go.WideShapes Go.ChangeAt Go.RowKit Go.Maps
open Lay (startL checkI placeI mayI sizeI Ok starts checkI_ok)
theorem okw_at {M : List Wd} (h : ∀ x ∈ M, OkW x) {k : Nat} (hk : k < M.length) : OkW M[k]! := h _ (mem_at hk)
theorem RowK.otherSet {α : Type} {E : Enc α} {t : TypeId} {B : Nat} {w : World} {v : Value} {m : List α} (h : RowK E t B w v m) {b : Nat} (hne : some b ≠ v.ownBlock) (j : Nat) (u : Value) : RowK E t B (w.setCell ⟨b, j, none⟩ u) v m := by
  obtain ⟨h1, h2 | ⟨g, cap, cur, hv, hB, hh, r⟩⟩ := h
  · exact ⟨h1, .inl h2⟩
  · refine ⟨h1, .inr ⟨g, cap, cur, hv, hB, ?_, r⟩⟩
    have hg : g ≠ b := fun e => hne (by rw [hv, e]; rfl)
    rw [Below.heap_setCell _ _ _ _ (by simpa using hg)]
    exact hh
/-- What decode answers. -/
def DecOut (M : List Wd) (a : Int) (m : Nat) (w : World) (e : Ending) (w' : World) : Prop :=
  ((decB M m = false ∧ e = .returned (.tuple #[.agg #[.int .i64 0, .int .i64 0, .int .i64 0, .slice none 0 0], .bool false])) ∨ (decB M m = true ∧ ∃ u, e = .returned (.tuple #[.agg #[.int .i64 a, .int .i64 M[0]!.2.1, .int .i64 M[0]!.1, u], .bool true]) ∧ ES w' u (entsA M M[1]!.1.toNat))) ∧ Below w.heap.size w w'
theorem DecOut.no {M : List Wd} {a : Int} {m : Nat} {w w' : World} (h : decB M m = false) (hb : Below w.heap.size w w') : DecOut M a m w (.returned (.tuple #[.agg #[.int .i64 0, .int .i64 0, .int .i64 0, .slice none 0 0], .bool false])) w' :=
  ⟨.inl ⟨h, rfl⟩, hb⟩
theorem DecOut.yes {M : List Wd} {a : Int} {m : Nat} {w w' : World} {x0 x1 x2 y0 y1 y2 : Int} {u : Value} (h : decB M m = true) (hx : M[0]! = (x0, x1, x2)) (hy : M[1]! = (y0, y1, y2)) (he : ES w' u (entsA M y0.toNat)) (hb : Below w.heap.size w w') : DecOut M a m w (.returned (.tuple #[.agg #[.int .i64 a, .int .i64 x1, .int .i64 x0, u], .bool true])) w' :=
  ⟨.inr ⟨h, u, by rw [hx], by rw [hy]; exact he⟩, hb⟩
set_option maxRecDepth 100000 in
set_option maxHeartbeats 6400000 in
theorem decode_any (v : Value) (M : List Wd) (a : Int) (m : Nat) (w : World) (hv : WS w v M) (hm : m ≤ 32) (hM : 2 + 3 * m ≤ M.length) (hk : M.length ≤ 5000) (ho : ∀ x ∈ M, OkW x) : Calls Tryd.prog 47 #[v, .int .i64 a, .int .i64 m] w (DecOut M a m w) := by
  have HV := Lib.hid hv
  obtain ⟨a1, cp, rfl, hcap⟩ := hv.form
  obtain ⟨n, hn⟩ : ∃ n, M.length = n := ⟨_, rfl⟩
  rw [hn] at HV hM hcap hk ⊢
  have HN := Lib.hid hn
  clear hv hn
  obtain ⟨b, off, rfl, hbl, hln, hc⟩ := HV.out.addr (k := 0) (by omega)
  have OW := Lib.hid (fun k (h : k < n) => okw_at ho (k := k) (by rw [HN.out]; exact h))
  have CC := Lib.hid (fun W' (h : Below w.heap.size w W') k (hk : k < n) => (show (W'.cell? ⟨b, off + k * 3, none⟩ = some (.int .i64 (M[k]!).1) ∧ W'.cell? ⟨b, off + k * 3 + 1, none⟩ = some (.int .u32 (M[k]!).2.1) ∧ W'.cell? ⟨b, off + k * 3 + 2, none⟩ = some (.int .u32 (M[k]!).2.2)) from ⟨(h.cell hbl).trans (wd_cells hc (by rw [hln]; exact hk)).1, (h.cell hbl).trans (wd_cells hc (by rw [hln]; exact hk)).2.1, (h.cell hbl).trans (wd_cells hc (by rw [hln]; exact hk)).2.2⟩))
  clear hc hln ho
  have BL := Lib.hid hbl
  clear hbl
  obtain ⟨o1, o2, o3⟩ := OW.out 0 (by omega)
  obtain ⟨p1, p2, p3⟩ := OW.out 1 (by omega)
  obtain ⟨r, hr⟩ : ∃ r, decB M m = r := ⟨_, rfl⟩
  have HR := Lib.hid hr
  have HD := Lib.hid hr
  unfold decB at HR
  clear hr
  obtain ⟨x, hx⟩ : ∃ x, M[0]! = x := ⟨_, rfl⟩
  obtain ⟨y, hy⟩ : ∃ x, M[1]! = x := ⟨_, rfl⟩
  have C0 := Lib.hid (fun W' h => CC.out W' h 0 (by omega))
  have D0 := Lib.hid (fun W' h => CC.out W' h 1 (by omega))
  rw [hx] at o1 o2 o3 C0
  rw [hy] at p1 p2 p3 D0 HR
  have HX := Lib.hid hx
  have HY := Lib.hid hy
  clear hx hy
  obtain ⟨x0, x1, x2⟩ := x
  obtain ⟨y0, y1, y2⟩ := y
  simp only at o1 o2 o3 p1 p2 p3 C0 D0 HR
  rw [Nat.zero_mul, Nat.add_zero] at C0
  rw [Nat.one_mul] at D0
  have BB := Lib.hid (below1 w (.cells #[.int .i64 0, .int .i64 0, .int .i64 0, .slice none 0 0] 25))
  have RB := Lib.hid (Box.new w #[.int .i64 0, .int .i64 0, .int .i64 0, .slice none 0 0] 25 rfl)
  go_enter Tryd.func47, Tryd.ntmps47
  go_upto_region 1 with fail
  obtain ⟨q, hq⟩ : ∃ q, w.heap.size = q := ⟨_, rfl⟩
  obtain ⟨W, hW⟩ : ∃ W, w.alloc (.cells #[.int .i64 0, .int .i64 0, .int .i64 0, .slice none 0 0] 25) = W := ⟨_, rfl⟩
  have HQ := Lib.hid hq
  rw [hW] at BB RB
  rw [hq] at RB
  rw [hW, hq]
  clear hW hq
  have k0 := RB.out.cell 0
  have k1 := RB.out.cell 1
  have k2 := RB.out.cell 2
  have k3 := RB.out.cell 3
  simp at k0 k1 k2 k3
  have f0 := RB.out.free 0
  have f1 := RB.out.free 1
  have f2 := RB.out.free 2
  have f3 := RB.out.free 3
  have l0 := RB.out.lt
  obtain ⟨c0, c1, c2⟩ := C0.out W BB.out
  obtain ⟨d0, d1, d2⟩ := D0.out W BB.out
  by_cases h1 : y0 < 1
  · have e : r = false := by rw [← HR.out, decide_eq_false (by omega)]; rfl
    subst e
    go_wp2_with fail
    replace RB : Hid (Box ((((W.setCell ⟨q, 0, none⟩ (.int .i64 0)).setCell ⟨q, 1, none⟩ (.int .i64 0)).setCell ⟨q, 2, none⟩ (.int .i64 0)).setCell ⟨q, 3, none⟩ (.slice none 0 0)) (q) #[.int .i64 0, .int .i64 0, .int .i64 0, .slice none 0 0] 25) := Lib.hid ((((RB.out.set 0 _).set 1 _).set 2 _).set 3 _)
    replace BB : Hid (Below w.heap.size w ((((W.setCell ⟨q, 0, none⟩ (.int .i64 0)).setCell ⟨q, 1, none⟩ (.int .i64 0)).setCell ⟨q, 2, none⟩ (.int .i64 0)).setCell ⟨q, 3, none⟩ (.slice none 0 0))) := Lib.hid ((((BB.out.setCell (show w.heap.size ≤ q by have := HQ.out; omega) _).setCell (show w.heap.size ≤ q by have := HQ.out; omega) _).setCell (show w.heap.size ≤ q by have := HQ.out; omega) _).setCell (show w.heap.size ≤ q by have := HQ.out; omega) _)
    generalize ((((W.setCell ⟨q, 0, none⟩ (.int .i64 0)).setCell ⟨q, 1, none⟩ (.int .i64 0)).setCell ⟨q, 2, none⟩ (.int .i64 0)).setCell ⟨q, 3, none⟩ (.slice none 0 0)) = W6 at *
    clear k0 k1 k2 k3 f0 f1 f2 f3 l0 c0 c1 c2 d0 d1 d2
    have k0 := RB.out.cell 0
    have k1 := RB.out.cell 1
    have k2 := RB.out.cell 2
    have k3 := RB.out.cell 3
    simp at k0 k1 k2 k3
    exact bodyPost_ret (v := .tuple #[.agg #[.int .i64 0, .int .i64 0, .int .i64 0, .slice none 0 0], .bool false]) (by simp [results, Tryd.f47, go_sem, k0, k1, k2, k3]) rfl (DecOut.no HD.out BB.out)
  by_cases h2 : (m : Int) < y0
  · have e : r = false := by rw [← HR.out, decide_eq_false (by omega)]; rfl
    subst e
    go_wp2_with fail
    replace RB : Hid (Box ((((W.setCell ⟨q, 0, none⟩ (.int .i64 0)).setCell ⟨q, 1, none⟩ (.int .i64 0)).setCell ⟨q, 2, none⟩ (.int .i64 0)).setCell ⟨q, 3, none⟩ (.slice none 0 0)) (q) #[.int .i64 0, .int .i64 0, .int .i64 0, .slice none 0 0] 25) := Lib.hid ((((RB.out.set 0 _).set 1 _).set 2 _).set 3 _)
    replace BB : Hid (Below w.heap.size w ((((W.setCell ⟨q, 0, none⟩ (.int .i64 0)).setCell ⟨q, 1, none⟩ (.int .i64 0)).setCell ⟨q, 2, none⟩ (.int .i64 0)).setCell ⟨q, 3, none⟩ (.slice none 0 0))) := Lib.hid ((((BB.out.setCell (show w.heap.size ≤ q by have := HQ.out; omega) _).setCell (show w.heap.size ≤ q by have := HQ.out; omega) _).setCell (show w.heap.size ≤ q by have := HQ.out; omega) _).setCell (show w.heap.size ≤ q by have := HQ.out; omega) _)
    generalize ((((W.setCell ⟨q, 0, none⟩ (.int .i64 0)).setCell ⟨q, 1, none⟩ (.int .i64 0)).setCell ⟨q, 2, none⟩ (.int .i64 0)).setCell ⟨q, 3, none⟩ (.slice none 0 0)) = W6 at *
    clear k0 k1 k2 k3 f0 f1 f2 f3 l0 c0 c1 c2 d0 d1 d2
    have k0 := RB.out.cell 0
    have k1 := RB.out.cell 1
    have k2 := RB.out.cell 2
    have k3 := RB.out.cell 3
    simp at k0 k1 k2 k3
    exact bodyPost_ret (v := .tuple #[.agg #[.int .i64 0, .int .i64 0, .int .i64 0, .slice none 0 0], .bool false]) (by simp [results, Tryd.f47, go_sem, k0, k1, k2, k3]) rfl (DecOut.no HD.out BB.out)
  rw [decide_eq_true (by omega), Bool.true_and] at HR
  obtain ⟨k, rfl⟩ : ∃ k : Nat, y0 = k := ⟨y0.toNat, by omega⟩
  rw [Int.toNat_natCast] at HR
  go_upto_region 4 with fail
  clear k0 k1 k2 k3 f0 f1 f2 f3 l0 c0 c1 c2 d0 d1 d2
  have hn0 : (0 : Int) < (n : Int) := by omega
  have hn1 : 0 < n := by omega
  have hw1 : IntKind.i64.wrap x1 = x1 := IntWalk.i64_in _ (by omega)
  have BD : Hid (Below W.heap.size W W.drew) := Lib.hid ((Below.refl _ _).drew)
  have FF : Hid (∀ W', Below W.heap.size W W' → W'.cell? ⟨b, off, none⟩ = some (.int .i64 x0) ∧ W'.cell? ⟨b, off + 1, none⟩ = some (.int .u32 x1)) := Lib.hid (fun W' h => have c := C0.out W' (BB.out.trans (h.mono BB.out.size)); ⟨c.1, c.2.1⟩)
  go_region_held3 (fun wz => wz.cell? ⟨b, off, none⟩ = some (.int .i64 x0) ∧ wz.cell? ⟨b, off + 1, none⟩ = some (.int .u32 x1)) (first | exact FF.out _ BD.out | exact FF.out _ (BD.out.alloc BD.out.size _)) (fail)
  have LB : Hid (Box ((W.alloc (.cells #[.int .i64 a, .int .i64 x1, .int .i64 x0, .slice none 0 0] 25)).drew) W.heap.size #[.int .i64 a, .int .i64 x1, .int .i64 x0, .slice none 0 0] 25) := Lib.hid ((Box.new W #[.int .i64 a, .int .i64 x1, .int .i64 x0, .slice none 0 0] 25 rfl).drewN 1)
  have QG : Hid (q < W.heap.size ∧ w.heap.size ≤ q) := Lib.hid ⟨RB.out.lt, by have := HQ.out; omega⟩
  have D1 : Hid (Below W.heap.size W ((W.alloc (.cells #[.int .i64 a, .int .i64 x1, .int .i64 x0, .slice none 0 0] 25)).drew)) := Lib.hid ((below1 W _).drew)
  replace BB := Lib.hid (BB.out.trans (D1.out.mono BB.out.size))
  replace RB := Lib.hid (RB.out.below D1.out)
  clear D1 FF BD C0 D0 hw1
  generalize (W.alloc (.cells #[.int .i64 a, .int .i64 x1, .int .i64 x0, .slice none 0 0] 25)).drew = W5 at *
  generalize W.heap.size = g at *
  go_wp2_with fail
  go_loopw [37] (fun iv wr => ∃ i u, i ≤ k ∧ iv = .int .i64 (i : Nat) ∧ (∀ j, j < i → isA M j = true) ∧ Box wr g #[.int .i64 a, .int .i64 x1, .int .i64 x0, u] 25 ∧ RowK enE 49 w.heap.size wr u (entsA M i) ∧ Box wr q #[.int .i64 0, .int .i64 0, .int .i64 0, .slice none 0 0] 25 ∧ Below w.heap.size w wr) (fun iv _ => k - (intOf iv).toNat)
  case atStart => exact ⟨0, _, by omega, rfl, fun j hj => by omega, LB.out, RowK.nil _ _ _, RB.out, BB.out⟩
  case round =>
    obtain ⟨i, u, hi, rfl, hno, hlb, hr, hrb, hb⟩ := hrel
    replace BB := Lib.hid hb
    replace LB := Lib.hid hlb
    replace RB := Lib.hid hrb
    have R := Lib.hid hr
    have NO := Lib.hid hno
    clear hb hlb hrb hr hno
    by_cases hlt : i < k
    · have q0 : (2 + 3 * i) + 3 ≤ n := by omega
      obtain ⟨c0, c1, c2⟩ := CC.out wr BB.out (2 + 3 * i) (by omega)
      obtain ⟨c3, c4, c5⟩ := CC.out wr BB.out (2 + 3 * i + 1) (by omega)
      obtain ⟨c6, c7, c8⟩ := CC.out wr BB.out (2 + 3 * i + 2) (by omega)
      rw [show off + (2 + 3 * i + 1) * 3 = off + (2 + 3 * i) * 3 + 3 by omega] at c3 c4 c5
      rw [show off + (2 + 3 * i + 2) * 3 = off + (2 + 3 * i) * 3 + 6 by omega] at c6 c7 c8
      have hat : ∀ w, (Instr.arrayAt 66 (.slice (some ⟨b, off + (2 + 3 * i) * 3, none⟩) (n - (2 + 3 * i)) (cp - (2 + 3 * i)))).run Tryd.prog w = .ok (.pointer (some ⟨b, off + (2 + 3 * i) * 3, none⟩)) w := fun w => run_arrayAt w 66 47 3 _ _ _ Tryd.underlying66 (by omega)
      have UP := Lib.hid (unpack_any M[2 + 3 * i]! M[2 + 3 * i + 1]! M[2 + 3 * i + 2]!)
      have UE := Lib.hid (show unE M[2 + 3 * i]! M[2 + 3 * i + 1]! M[2 + 3 * i + 2]! = (if isA M i = true then entA M i else zE) from rfl)
      have US := Lib.hid (show isEnt M[2 + 3 * i]! M[2 + 3 * i + 1]! M[2 + 3 * i + 2]! = isA M i from rfl)
      rw [UE.out, US.out] at UP
      have ES1 := Lib.hid (entsA_succ M i)
      have EL := Lib.hid (entsA_len M i)
      unfold enV w3V at UP
      clear UE US
      obtain ⟨A, hA⟩ : ∃ x, M[2 + 3 * i]! = x := ⟨_, rfl⟩
      obtain ⟨A', hA'⟩ : ∃ x, M[2 + 3 * i + 1]! = x := ⟨_, rfl⟩
      obtain ⟨A'', hA''⟩ : ∃ x, M[2 + 3 * i + 2]! = x := ⟨_, rfl⟩
      rw [hA] at c0 c1 c2 UP
      rw [hA'] at c3 c4 c5 UP
      rw [hA''] at c6 c7 c8 UP
      clear hA hA' hA''
      obtain ⟨s0, s1, s2⟩ := A
      obtain ⟨t0, t1, t2⟩ := A'
      obtain ⟨r0, r1, r2⟩ := A''
      simp only at c0 c1 c2 c3 c4 c5 c6 c7 c8 UP
      obtain ⟨ra, rc, e6, _⟩ := R.out.form
      rw [EL.out] at e6
      subst e6
      cases hz : isA M i with
      | false =>
        rw [hz] at UP
        have e : r = false := HR.out.symm.trans (allA_no hlt hz)
        clear hz
        simp only [Bool.false_eq_true, if_false, zE] at UP
        go_wp2_with fail
        refine (UP.out _).mono ?_
        rintro e w4 ⟨rfl, hb⟩
        replace BB := Lib.hid (BB.out.trans (hb.mono BB.out.size))
        replace RB := Lib.hid (RB.out.below hb)
        clear hb c0 c1 c2 c3 c4 c5 c6 c7 c8
        go_upto_region 9 with fail
        have RB1 := Lib.hid (RB.out.alloc (.cells #[.int .i64 0, .int .i64 0, .int .u32 0, .int .u32 0, .int .i64 0, .bool false] 49))
        have BB1 := Lib.hid (BB.out.alloc BB.out.size (.cells #[.int .i64 0, .int .i64 0, .int .u32 0, .int .u32 0, .int .i64 0, .bool false] 49))
        generalize w4.alloc (.cells #[.int .i64 0, .int .i64 0, .int .u32 0, .int .u32 0, .int .i64 0, .bool false] 49) = W6 at *
        have k0 := RB1.out.cell 0
        have k1 := RB1.out.cell 1
        have k2 := RB1.out.cell 2
        have k3 := RB1.out.cell 3
        simp at k0 k1 k2 k3
        have f0 := RB1.out.free 0
        have f1 := RB1.out.free 1
        have f2 := RB1.out.free 2
        have f3 := RB1.out.free 3
        have l0 := RB1.out.lt
        go_wp2_with fail
        replace RB1 : Hid (Box ((((W6.setCell ⟨q, 0, none⟩ (.int .i64 0)).setCell ⟨q, 1, none⟩ (.int .i64 0)).setCell ⟨q, 2, none⟩ (.int .i64 0)).setCell ⟨q, 3, none⟩ (.slice none 0 0)) (q) #[.int .i64 0, .int .i64 0, .int .i64 0, .slice none 0 0] 25) := Lib.hid ((((RB1.out.set 0 _).set 1 _).set 2 _).set 3 _)
        replace BB1 : Hid (Below w.heap.size w ((((W6.setCell ⟨q, 0, none⟩ (.int .i64 0)).setCell ⟨q, 1, none⟩ (.int .i64 0)).setCell ⟨q, 2, none⟩ (.int .i64 0)).setCell ⟨q, 3, none⟩ (.slice none 0 0))) := Lib.hid ((((BB1.out.setCell (show w.heap.size ≤ q from QG.out.2) _).setCell (show w.heap.size ≤ q from QG.out.2) _).setCell (show w.heap.size ≤ q from QG.out.2) _).setCell (show w.heap.size ≤ q from QG.out.2) _)
        generalize ((((W6.setCell ⟨q, 0, none⟩ (.int .i64 0)).setCell ⟨q, 1, none⟩ (.int .i64 0)).setCell ⟨q, 2, none⟩ (.int .i64 0)).setCell ⟨q, 3, none⟩ (.slice none 0 0)) = W7 at *
        clear k0 k1 k2 k3 f0 f1 f2 f3 l0
        have k0 := RB1.out.cell 0
        have k1 := RB1.out.cell 1
        have k2 := RB1.out.cell 2
        have k3 := RB1.out.cell 3
        simp at k0 k1 k2 k3
        exact bodyPost_ret (v := .tuple #[.agg #[.int .i64 0, .int .i64 0, .int .i64 0, .slice none 0 0], .bool false]) (by simp [results, Tryd.f47, go_sem, k0, k1, k2, k3]) rfl (DecOut.no (by rw [HD.out, e]) BB1.out)
      | true =>
        rw [hz] at UP
        have HZ := Lib.hid hz
        clear hz
        simp only [if_true] at UP
        obtain ⟨y, hy⟩ : ∃ y, entA M i = y := ⟨_, rfl⟩
        rw [hy] at UP ES1
        clear hy
        obtain ⟨e0, ⟨e1, e2, e3⟩, e4, e5⟩ := y
        simp only at UP
        go_wp2_with fail
        refine (UP.out _).mono ?_
        rintro e w4 ⟨rfl, hb⟩
        replace BB := Lib.hid (BB.out.trans (hb.mono BB.out.size))
        replace RB := Lib.hid (RB.out.below hb)
        replace LB := Lib.hid (LB.out.below hb)
        replace R := Lib.hid (R.out.below hb)
        clear hb c0 c1 c2 c3 c4 c5 c6 c7 c8
        go_upto_region 9 with fail
        have EB := Lib.hid (Box.new w4 #[.int .i64 e0, .int .i64 e1, .int .u32 e2, .int .u32 e3, .int .i64 e4, .bool e5] 49 rfl)
        replace RB := Lib.hid (RB.out.alloc (.cells #[.int .i64 e0, .int .i64 e1, .int .u32 e2, .int .u32 e3, .int .i64 e4, .bool e5] 49))
        replace LB := Lib.hid (LB.out.alloc (.cells #[.int .i64 e0, .int .i64 e1, .int .u32 e2, .int .u32 e3, .int .i64 e4, .bool e5] 49))
        replace R := Lib.hid (R.out.below (below1 w4 (.cells #[.int .i64 e0, .int .i64 e1, .int .u32 e2, .int .u32 e3, .int .i64 e4, .bool e5] 49)))
        replace BB := Lib.hid (BB.out.alloc BB.out.size (.cells #[.int .i64 e0, .int .i64 e1, .int .u32 e2, .int .u32 e3, .int .i64 e4, .bool e5] 49))
        generalize w4.alloc (.cells #[.int .i64 e0, .int .i64 e1, .int .u32 e2, .int .u32 e3, .int .i64 e4, .bool e5] 49) = W6 at *
        generalize w4.heap.size = p at *
        have z0 := EB.out.cell 0
        have z1 := EB.out.cell 1
        have z2 := EB.out.cell 2
        have z3 := EB.out.cell 3
        have z4 := EB.out.cell 4
        have z5 := EB.out.cell 5
        simp at z0 z1 z2 z3 z4 z5
        have k0 := LB.out.cell 0
        have k1 := LB.out.cell 1
        have k2 := LB.out.cell 2
        have k3 := LB.out.cell 3
        simp at k0 k1 k2 k3
        have E3 := Lib.hid (SK.ofBox (E := enE) (Box.new W6 #[.int .i64 e0, .int .i64 e1, .int .u32 e2, .int .u32 e3, .int .i64 e4, .bool e5] 49 rfl) (L := [(e0, (e1, e2, e3), e4, e5)]) (n := 1) (cap := 1) rfl rfl (Nat.le_refl _))
        have RA := Lib.hid (RB.out.alloc (.cells #[.int .i64 e0, .int .i64 e1, .int .u32 e2, .int .u32 e3, .int .i64 e4, .bool e5] 49))
        have LA := Lib.hid (LB.out.alloc (.cells #[.int .i64 e0, .int .i64 e1, .int .u32 e2, .int .u32 e3, .int .i64 e4, .bool e5] 49))
        have MA := Lib.hid (R.out.below (below1 W6 (.cells #[.int .i64 e0, .int .i64 e1, .int .u32 e2, .int .u32 e3, .int .i64 e4, .bool e5] 49)))
        have BA := Lib.hid (BB.out.alloc BB.out.size (.cells #[.int .i64 e0, .int .i64 e1, .int .u32 e2, .int .u32 e3, .int .i64 e4, .bool e5] 49))
        go_wp2_with (first
          | (at_builtin; refine wpList_appK (w0 := w) Tryd.underlying23 infoEn rfl (by decide) _ rfl (.tmp 55) (.tmp 57) rfl rfl BA.out MA.out rfl E3.out (by simp; rw [EL.out]; omega) ?_; intro v3 w3 rr3 b3 g3; obtain ⟨a6, c6, e6⟩ : ∃ a c, v3 = .slice a (i + 1) c := (by obtain ⟨a, c, h, _⟩ := rr3.form; exact ⟨a, c, by rw [h, List.length_append, EL.out]; rfl⟩); subst e6; have R3 := Lib.hid rr3; have B3 := Lib.hid b3; have L3 := Lib.hid (LA.out.grown g3 (box_not_rowK MA.out LA.out (by decide))); have RR3 := Lib.hid (RA.out.grown g3 (box_not_rowK MA.out RA.out (by decide))); have m3 := L3.out.cell 3; have n3 := L3.out.free 3; have o3 := L3.out.lt; simp at m3; clear rr3 b3 g3)
          | fail)
        go_roundw
        case rel =>
          refine ⟨i + 1, _, by omega, by go_num, fun j hj => ?_, L3.out.set 3 _, by rw [ES1.out]; exact R3.out.otherSet (box_not_rowK R3.out L3.out (by decide)) 3 _, RR3.out.other (by have := QG.out; omega) 3 _, B3.out.setCell (show w.heap.size ≤ g by have := QG.out; omega) _⟩
          by_cases e : j = i
          · subst e; exact HZ.out
          · exact NO.out j (by omega)
        case measure => simp [intOf]; omega
    · obtain rfl : i = k := by omega
      have e : r = true := HR.out.symm.trans (allA_yes NO.out)
      have m0 := LB.out.cell 0
      have m1 := LB.out.cell 1
      have m2 := LB.out.cell 2
      have m3 := LB.out.cell 3
      simp at m0 m1 m2 m3
      have k0 := RB.out.cell 0
      have k1 := RB.out.cell 1
      have k2 := RB.out.cell 2
      have k3 := RB.out.cell 3
      simp at k0 k1 k2 k3
      have f0 := RB.out.free 0
      have f1 := RB.out.free 1
      have f2 := RB.out.free 2
      have f3 := RB.out.free 3
      have l0 := RB.out.lt
      obtain ⟨ra, rc, e6, _⟩ := R.out.form
      rw [entsA_len] at e6
      subst e6
      have NE : Hid (some q ≠ (Value.slice ra i rc).ownBlock) := Lib.hid (box_not_rowK R.out RB.out (by decide))
      go_wp2_with fail
      have S4 : Hid (ES ((((wr.setCell ⟨q, 0, none⟩ (.int .i64 a)).setCell ⟨q, 1, none⟩ (.int .i64 x1)).setCell ⟨q, 2, none⟩ (.int .i64 x0)).setCell ⟨q, 3, none⟩ (.slice ra i rc)) (.slice ra i rc) (entsA M i)) := Lib.hid (((((R.out.otherSet NE.out 0 _).otherSet NE.out 1 _).otherSet NE.out 2 _).otherSet NE.out 3 _)).sk
      replace RB : Hid (Box ((((wr.setCell ⟨q, 0, none⟩ (.int .i64 a)).setCell ⟨q, 1, none⟩ (.int .i64 x1)).setCell ⟨q, 2, none⟩ (.int .i64 x0)).setCell ⟨q, 3, none⟩ (.slice ra i rc)) (q) #[.int .i64 a, .int .i64 x1, .int .i64 x0, .slice ra i rc] 25) := Lib.hid ((((RB.out.set 0 _).set 1 _).set 2 _).set 3 _)
      replace BB : Hid (Below w.heap.size w ((((wr.setCell ⟨q, 0, none⟩ (.int .i64 a)).setCell ⟨q, 1, none⟩ (.int .i64 x1)).setCell ⟨q, 2, none⟩ (.int .i64 x0)).setCell ⟨q, 3, none⟩ (.slice ra i rc))) := Lib.hid ((((BB.out.setCell (show w.heap.size ≤ q from QG.out.2) _).setCell (show w.heap.size ≤ q from QG.out.2) _).setCell (show w.heap.size ≤ q from QG.out.2) _).setCell (show w.heap.size ≤ q from QG.out.2) _)
      generalize ((((wr.setCell ⟨q, 0, none⟩ (.int .i64 a)).setCell ⟨q, 1, none⟩ (.int .i64 x1)).setCell ⟨q, 2, none⟩ (.int .i64 x0)).setCell ⟨q, 3, none⟩ (.slice ra i rc)) = W7 at *
      clear k0 k1 k2 k3 f0 f1 f2 f3 l0
      have k0 := RB.out.cell 0
      have k1 := RB.out.cell 1
      have k2 := RB.out.cell 2
      have k3 := RB.out.cell 3
      simp at k0 k1 k2 k3
      exact bodyPost_ret (v := .tuple #[.agg #[.int .i64 a, .int .i64 x1, .int .i64 x0, .slice ra i rc], .bool true]) (by simp [results, Tryd.f47, go_sem, k0, k1, k2, k3]) rfl (DecOut.yes (by rw [HD.out, e]) HX.out HY.out S4.out BB.out)
end Go.Proofs.YtfegeahieajmkaaDoor
