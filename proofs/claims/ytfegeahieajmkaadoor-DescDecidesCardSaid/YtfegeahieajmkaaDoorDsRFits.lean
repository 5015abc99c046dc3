/- The reference's Fits. -/
import Derived.Test.YtfegeahieajmkaaDoorDsRPlace
import Derived.Test.YtfegeahieajmkaaDoorDsRight
import Derived.Test.YtfegeahieajmkaaDoorDsReg
import Derived.Deep.DeepCutAuto
namespace Go.Proofs.YtfegeahieajmkaaDoor
open Go.ChangeShapes Go.WideShapes Go.ChangeAt Go.RowKit Go.Maps
open Lay (startL checkI placeI mayI sizeI Ok starts checkI_ok)
theorem chkD_zero {T C B : Nat} (h : Ok T C B) (a b c : Int) (L : List En) : chkD T C B (a, b, c, L) = 0 ↔ (placeI T C B a).2 ≠ 0 ∧ 1 ≤ b ∧ b ≤ 16777215 ∧ 0 ≤ c ∧ c ≤ 3 ∧ chkL L = 0 ∧ ascB L = true ∧ mayL T C B L = true ∧ (L.length : Int) ≤ (placeI T C B a).2 := by
  unfold chkD
  rw [checkI_ok h, if_neg (by simp)]
  simp only
  constructor
  · intro h
    by_cases h1 : (placeI T C B a).2 = 0
    · rw [if_pos h1] at h; cases h
    rw [if_neg h1] at h
    by_cases h2 : b < 1 ∨ 16777215 < b
    · rw [if_pos h2] at h; cases h
    rw [if_neg h2] at h
    by_cases h3 : c < 0 ∨ 3 < c
    · rw [if_pos h3] at h; cases h
    rw [if_neg h3] at h
    by_cases h4 : chkL L = 0
    case neg => rw [if_pos h4] at h; exact absurd h h4
    rw [if_neg (by simp [h4])] at h
    cases h5 : ascB L with
    | false => rw [if_pos h5] at h; cases h
    | true =>
      rw [if_neg (by rw [h5]; decide)] at h
      cases h6 : mayL T C B L with
      | false => rw [if_pos h6] at h; cases h
      | true =>
        rw [if_neg (by rw [h6]; decide)] at h
        by_cases h7 : (placeI T C B a).2 < L.length
        · rw [if_pos h7] at h; cases h
        · exact ⟨h1, by omega, by omega, by omega, by omega, h4, rfl, rfl, by omega⟩
  · rintro ⟨h1, h2, h3, h4, h5, h6, h7, h8, h9⟩
    rw [if_neg h1, if_neg (by omega), if_neg (by omega), if_neg (by simp [h6]), if_neg (by rw [h7]; decide), if_neg (by rw [h8]; decide), if_neg (by omega)]
set_option maxRecDepth 100000 in
set_option maxHeartbeats 6400000 in
theorem rfits_any (T C B : Nat) (u : Value) (a b c : Int) (v : Value) (L : List En) (w : World) (hok : Ok T C B) (hu : SK blE w u (mayBs T C B (startL T C B 7))) (hv : ES w v L) (hl : L.length ≤ 1000) (ha : -9223372036854775808 ≤ a ∧ a < 9223372036854775808) : Calls Tryd.prog 17 #[PlV T C B u, dV a b c v] w fun e w' => e = .returned (.bool (decide (chkD T C B (a, b, c, L) = 0))) ∧ Below w.heap.size w w' := by
  have CZ := Lib.hid (chkD_zero hok a b c L)
  have PR := Lib.hid (place_room hok a)
  have HV := Lib.hid hv
  have HU := Lib.hid hu
  have RP := Lib.hid (fun W h => rplace_any T C B u a W hok (hu.below h) ha)
  have RM := Lib.hid (fun x W h => rmay_any T C B u x W hok (hu.below h))
  have RR := Lib.hid (fun W h => rright_any v L W (hv.below h) hl)
  rw [right_iff] at RR
  obtain ⟨a1, cp, rfl, hcap⟩ := hv.form
  obtain ⟨pua, puc, rfl, _⟩ := hu.form
  rw [mayBs_len] at HU RP RM ⊢
  unfold PlV at *
  obtain ⟨n, hn⟩ : ∃ n, L.length = n := ⟨_, rfl⟩
  rw [hn] at HV hl hcap RR CZ ⊢
  have HN := Lib.hid hn
  obtain ⟨pn, hpn⟩ : ∃ n, startL T C B 7 = n := ⟨_, rfl⟩
  obtain ⟨s4, hs4⟩ : ∃ n, startL T C B 4 = n := ⟨_, rfl⟩
  obtain ⟨rm, hrm⟩ : ∃ n, roomsI T C B = n := ⟨_, rfl⟩
  rw [hpn] at HU RP RM ⊢
  rw [hs4, hrm] at RP RM ⊢
  obtain ⟨pa, hpa⟩ : ∃ x, (placeI T C B a).1 = x := ⟨_, rfl⟩
  obtain ⟨pm, hpm⟩ : ∃ x, (placeI T C B a).2 = x := ⟨_, rfl⟩
  have HPA : Hid ((pa = -1 ∧ pm = 0) ∨ (0 ≤ pa ∧ pm ≠ 0)) := Lib.hid (by
    rcases PR.out with h | ⟨x, m, h, hm, _, _⟩
    · left; rw [← hpa, ← hpm, h]; exact ⟨rfl, rfl⟩
    · right; rw [← hpa, ← hpm, h]; simp only; rcases hm with rfl | rfl <;> omega)
  rw [hpa, hpm] at RP
  rw [hpm] at CZ
  clear hv hu hn hpn hs4 hrm hpa hpm PR HU
  obtain ⟨r, hr⟩ : ∃ r, decide (chkD T C B (a, b, c, L) = 0) = r := ⟨_, rfl⟩
  rw [hr]
  have HR := Lib.hid hr
  clear hr
  go_enter Tryd.func17, Tryd.ntmps17
  go_upto_region 1 with fail
  have B1 := Lib.hid (below1 w (.cells #[.int .i64 T, .int .i64 B, .int .i64 s4, .int .i64 rm, .int .i64 104, .int .i64 32, .slice pua pn puc, .int .i64 pn] 32))
  have B2 := Lib.hid (below1 (w.alloc (.cells #[.int .i64 T, .int .i64 B, .int .i64 s4, .int .i64 rm, .int .i64 104, .int .i64 32, .slice pua pn puc, .int .i64 pn] 32)) (.cells #[.int .i64 a, .int .i64 b, .int .i64 c, .slice a1 n cp] 39))
  have BB := Lib.hid (B1.out.trans (B2.out.mono B1.out.size))
  have P2 := Lib.hid ((Box.new w #[.int .i64 T, .int .i64 B, .int .i64 s4, .int .i64 rm, .int .i64 104, .int .i64 32, .slice pua pn puc, .int .i64 pn] 32 rfl).below B2.out)
  have D3 := Lib.hid (Box.new (w.alloc (.cells #[.int .i64 T, .int .i64 B, .int .i64 s4, .int .i64 rm, .int .i64 104, .int .i64 32, .slice pua pn puc, .int .i64 pn] 32)) #[.int .i64 a, .int .i64 b, .int .i64 c, .slice a1 n cp] 39 (n := w.heap.size + 1) (by simp))
  obtain ⟨W, hW⟩ : ∃ W, ((w.alloc (.cells #[.int .i64 T, .int .i64 B, .int .i64 s4, .int .i64 rm, .int .i64 104, .int .i64 32, .slice pua pn puc, .int .i64 pn] 32)).alloc (.cells #[.int .i64 a, .int .i64 b, .int .i64 c, .slice a1 n cp] 39)) = W := ⟨_, rfl⟩
  obtain ⟨q, hq⟩ : ∃ q, w.heap.size = q := ⟨_, rfl⟩
  rw [hW] at BB P2 D3
  rw [hq] at P2 D3
  rw [hW, hq]
  clear hW hq B1 B2
  have x0 := P2.out.cell 0
  have x1 := P2.out.cell 1
  have x2 := P2.out.cell 2
  have x3 := P2.out.cell 3
  have x4 := P2.out.cell 4
  have x5 := P2.out.cell 5
  have x6 := P2.out.cell 6
  have x7 := P2.out.cell 7
  simp at x0 x1 x2 x3 x4 x5 x6 x7
  have y0 := D3.out.cell 0
  have y1 := D3.out.cell 1
  have y2 := D3.out.cell 2
  have y3 := D3.out.cell 3
  simp at y0 y1 y2 y3
  go_wp2_with fail
  refine (RP.out _ BB.out).mono ?_
  rintro e w1 ⟨rfl, hb⟩
  replace P2 := Lib.hid (P2.out.below hb)
  replace D3 := Lib.hid (D3.out.below hb)
  replace BB := Lib.hid (BB.out.trans (hb.mono BB.out.size))
  clear hb x0 x1 x2 x3 x4 x5 x6 x7 y0 y1 y2 y3 RP
  have y0 := D3.out.cell 0
  have y1 := D3.out.cell 1
  have y2 := D3.out.cell 2
  have y3 := D3.out.cell 3
  simp at y0 y1 y2 y3
  rcases HPA.out with ⟨rfl, rfl⟩ | ⟨hp0, hpm0⟩
  · clear HPA
    have e : r = false := by rw [← HR.out]; exact decide_eq_false (fun h => by have h := CZ.out.1 h; exact h.1 rfl)
    subst e
    clear CZ
    go_wp2_with fail
    go_ret
    exact ⟨rfl, BB.out⟩
  clear HPA
  by_cases hs1 : b < 1
  · skip
    have e : r = false := by rw [← HR.out]; exact decide_eq_false (fun h => by have h := CZ.out.1 h; omega)
    subst e
    clear CZ
    go_wp2_with fail
    go_ret
    exact ⟨rfl, BB.out⟩
  by_cases hs2 : 16777215 < b
  · skip
    have e : r = false := by rw [← HR.out]; exact decide_eq_false (fun h => by have h := CZ.out.1 h; omega)
    subst e
    clear CZ
    go_wp2_with fail
    go_ret
    exact ⟨rfl, BB.out⟩
  by_cases ht1 : c < 0
  · skip
    have e : r = false := by rw [← HR.out]; exact decide_eq_false (fun h => by have h := CZ.out.1 h; omega)
    subst e
    clear CZ
    go_wp2_with fail
    go_ret
    exact ⟨rfl, BB.out⟩
  by_cases ht2 : 3 < c
  · skip
    have e : r = false := by rw [← HR.out]; exact decide_eq_false (fun h => by have h := CZ.out.1 h; omega)
    subst e
    clear CZ
    go_wp2_with fail
    go_ret
    exact ⟨rfl, BB.out⟩
  by_cases hm : pm < (n : Int)
  · skip
    have e : r = false := by rw [← HR.out]; exact decide_eq_false (fun h => by have h := CZ.out.1 h; omega)
    subst e
    clear CZ
    go_wp2_with fail
    go_ret
    exact ⟨rfl, BB.out⟩
  have hp1 : ¬ pa < 0 := by omega
  go_wp2_with fail
  refine (RR.out _ BB.out).mono ?_
  rintro e w2 ⟨rfl, hb⟩
  replace P2 := Lib.hid (P2.out.below hb)
  replace D3 := Lib.hid (D3.out.below hb)
  replace BB := Lib.hid (BB.out.trans (hb.mono BB.out.size))
  clear hb y0 y1 y2 y3 RR
  have y0 := D3.out.cell 0
  have y1 := D3.out.cell 1
  have y2 := D3.out.cell 2
  have y3 := D3.out.cell 3
  simp at y0 y1 y2 y3
  cases hck : (decide (chkL L = 0) && ascB L) with
  | false =>
    have hck2 : ¬ (chkL L = 0 ∧ ascB L = true) := by rintro ⟨h1, h2⟩; rw [decide_eq_true h1, h2] at hck; cases hck
    clear hck
    have e : r = false := by rw [← HR.out]; exact decide_eq_false (fun h => by have h := CZ.out.1 h; exact hck2 ⟨h.2.2.2.2.2.1, h.2.2.2.2.2.2.1⟩)
    subst e
    clear CZ
    go_wp2_with fail
    go_ret
    exact ⟨rfl, BB.out⟩
  | true =>
    rw [Bool.and_eq_true, decide_eq_true_eq] at hck
    have HC := Lib.hid hck
    clear hck
    go_wp2_with fail
    clear y0 y1 y2 y3
    go_loopw [7] (fun iv wr => ∃ j : Nat, j ≤ n ∧ iv = .int .i64 j ∧ (∀ i, i < j → mayI T C B L[i]!.1 = true) ∧ Box wr q #[.int .i64 T, .int .i64 B, .int .i64 s4, .int .i64 rm, .int .i64 104, .int .i64 32, .slice pua pn puc, .int .i64 pn] 32 ∧ Box wr (q + 1) #[.int .i64 a, .int .i64 b, .int .i64 c, .slice a1 n cp] 39 ∧ Below w.heap.size w wr) (fun iv _ => n - (intOf iv).toNat)
    case atStart => exact ⟨0, by omega, rfl, fun i h1 => by omega, P2.out, D3.out, BB.out⟩
    case round =>
      obtain ⟨j, hj, rfl, hno, h2, h3, h4⟩ := hrel
      replace P2 := Lib.hid h2
      replace D3 := Lib.hid h3
      replace BB := Lib.hid h4
      have NO := Lib.hid hno
      clear h2 h3 h4 hno
      by_cases hlt : j < n
      · obtain ⟨b0, off, rfl, hbl, hln, hc⟩ := HV.out.addr hlt
        have C0 := Lib.hid (fun W' (h : Below w.heap.size w W') => show W'.cell? ⟨b0, off + j * 6, none⟩ = some (.int .i64 (L[j]!).1) from (h.cell hbl).trans (en_cells hc (by rw [hln]; exact hlt)).1)
        clear hc hln hbl
        obtain ⟨e0, he0⟩ : ∃ y, (L[j]!).1 = y := ⟨_, rfl⟩
        rw [he0] at C0
        have HY := Lib.hid he0
        clear he0
        have RM0 := Lib.hid (fun W h => RM.out e0 W h)
        have y0 := D3.out.cell 0
        have y1 := D3.out.cell 1
        have y2 := D3.out.cell 2
        have y3 := D3.out.cell 3
        simp at y0 y1 y2 y3
        go_upto_region 7 with fail
        clear y0 y1 y2 y3
        replace P2 := Lib.hid (P2.out.below ((Below.refl _ _).drew))
        replace D3 := Lib.hid (D3.out.below ((Below.refl _ _).drew))
        replace BB := Lib.hid (BB.out.trans (((Below.refl _ _).drew).mono BB.out.size))
        refine wp_region_held_drew (S := fun w' => w'.cell? ⟨q, 0, none⟩ = some (.int .i64 T) ∧ w'.cell? ⟨q, 1, none⟩ = some (.int .i64 B) ∧ w'.cell? ⟨q, 2, none⟩ = some (.int .i64 s4) ∧ w'.cell? ⟨q, 3, none⟩ = some (.int .i64 rm) ∧ w'.cell? ⟨q, 4, none⟩ = some (.int .i64 104) ∧ w'.cell? ⟨q, 5, none⟩ = some (.int .i64 32) ∧ w'.cell? ⟨q, 6, none⟩ = some (.slice pua pn puc) ∧ w'.cell? ⟨q, 7, none⟩ = some (.int .i64 pn) ∧ w'.cell? ⟨q + 1, 0, none⟩ = some (.int .i64 a) ∧ w'.cell? ⟨q + 1, 1, none⟩ = some (.int .i64 b) ∧ w'.cell? ⟨q + 1, 2, none⟩ = some (.int .i64 c) ∧ w'.cell? ⟨q + 1, 3, none⟩ = some (.slice (some ⟨b0, off, none⟩) n cp) ∧ w'.cell? ⟨b0, off + j * 6, none⟩ = some (.int .i64 e0)) (by kernel_rfl) ⟨(P2.out.cell 0), (P2.out.cell 1), (P2.out.cell 2), (P2.out.cell 3), (P2.out.cell 4), (P2.out.cell 5), (P2.out.cell 6), (P2.out.cell 7), (D3.out.cell 0), (D3.out.cell 1), (D3.out.cell 2), (D3.out.cell 3), (C0.out _ BB.out)⟩ (fun hHeld => ?_)
        generalize World.drew wr = V30 at *
        refine wpAnyH_take (i := 0) (oi := { dst := some 57, op := Op.load 32 (Operand.tmp 2), type := 32, pos := "ref.go:62", after := #[], guard := none }) (v := ?d31_1xv0) rfl (by kernel_rfl) (by kernel_rfl) (by kernel_rfl) (fun _ _ _ h => h) (Or.inl ⟨by rfl, ?d31_1xy0⟩) (by assumption) ?d31_1xr0
        case d31_1xy0 => (intro w hSw; (try dsimp only at hSw); go_simp; try with_reducible rfl)
        (try simp only [Act.put])
        (try simp only [List.setIfInBounds_toArray])
        (try simp only [List.set_cons_succ])
        (try simp only [List.set_cons_zero])
        refine wpAnyH_take (i := 1) (oi := { dst := some 58, op := Op.fieldAddr 39 (Operand.tmp 3) 3, type := 0, pos := "ref.go:62", after := #[], guard := none }) (v := ?d31_2xv1) rfl (by kernel_rfl) (by kernel_rfl) (by kernel_rfl) (fun _ _ _ h => h) (Or.inl ⟨by rfl, ?d31_2xy1⟩) (by assumption) ?d31_2xr1
        case d31_2xy1 => (intro w hSw; (try dsimp only at hSw); go_simp; try with_reducible rfl)
        (try simp only [Act.put])
        (try simp only [List.setIfInBounds_toArray])
        (try simp only [List.set_cons_succ])
        (try simp only [List.set_cons_zero])
        refine wpAnyH_take (i := 2) (oi := { dst := some 59, op := Op.load 23 (Operand.tmp 58), type := 23, pos := "ref.go:62", after := #[{ on := 1, ground := Ground.data }], guard := none }) (v := ?d31_3xv2) rfl (by kernel_rfl) (by kernel_rfl) (by kernel_rfl) (fun _ _ _ h => h) (Or.inl ⟨by rfl, ?d31_3xy2⟩) (by assumption) ?d31_3xr2
        case d31_3xy2 => (intro w hSw; (try dsimp only at hSw); go_simp; try with_reducible rfl)
        (try simp only [Act.put])
        (try simp only [List.setIfInBounds_toArray])
        (try simp only [List.set_cons_succ])
        (try simp only [List.set_cons_zero])
        refine wpAnyH_take (i := 3) (oi := { dst := some 60, op := Op.move (Operand.tmp 7), type := 3, pos := "ref.go:62", after := #[], guard := none }) (v := ?d31_4xv3) rfl (by kernel_rfl) (by kernel_rfl) (by kernel_rfl) (fun _ _ _ h => h) (Or.inl ⟨by rfl, ?d31_4xy3⟩) (by assumption) ?d31_4xr3
        case d31_4xy3 => (intro w hSw; (try dsimp only at hSw); go_simp; try with_reducible rfl)
        (try simp only [Act.put])
        (try simp only [List.setIfInBounds_toArray])
        (try simp only [List.set_cons_succ])
        (try simp only [List.set_cons_zero])
        refine wpAnyH_take (i := 4) (oi := { dst := some 61, op := Op.indexAddr 23 (Operand.tmp 59) (Operand.tmp 60), type := 0, pos := "ref.go:62", after := #[{ on := 2, ground := Ground.data }, { on := 3, ground := Ground.data }], guard := none }) (v := ?d31_5xv4) rfl (by kernel_rfl) (by kernel_rfl) (by kernel_rfl) (fun _ _ _ h => h) (Or.inl ⟨by rfl, ?d31_5xy4⟩) (by assumption) ?d31_5xr4
        case d31_5xy4 => (intro w hSw; (try dsimp only at hSw); go_simp; try with_reducible rfl)
        (try simp only [Act.put])
        (try simp only [List.setIfInBounds_toArray])
        (try simp only [List.set_cons_succ])
        (try simp only [List.set_cons_zero])
        refine wpAnyH_take (i := 5) (oi := { dst := some 62, op := Op.fieldAddr 49 (Operand.tmp 61) 0, type := 0, pos := "ref.go:62", after := #[{ on := 4, ground := Ground.data }], guard := none }) (v := ?d31_6xv5) rfl (by kernel_rfl) (by kernel_rfl) (by kernel_rfl) (fun _ _ _ h => h) (Or.inl ⟨by rfl, ?d31_6xy5⟩) (by assumption) ?d31_6xr5
        case d31_6xy5 => (intro w hSw; (try dsimp only at hSw); go_simp; try with_reducible rfl)
        (try simp only [Act.put])
        (try simp only [List.setIfInBounds_toArray])
        (try simp only [List.set_cons_succ])
        (try simp only [List.set_cons_zero])
        refine wpAnyH_take (i := 6) (oi := { dst := some 63, op := Op.load 44 (Operand.tmp 62), type := 44, pos := "ref.go:62", after := #[{ on := 5, ground := Ground.data }], guard := none }) (v := ?d31_7xv6) rfl (by kernel_rfl) (by kernel_rfl) (by kernel_rfl) (fun _ _ _ h => h) (Or.inl ⟨by rfl, ?d31_7xy6⟩) (by assumption) ?d31_7xr6
        case d31_7xy6 => (intro w hSw; (try dsimp only at hSw); go_simp; try with_reducible rfl)
        (try simp only [Act.put])
        (try simp only [List.setIfInBounds_toArray])
        (try simp only [List.set_cons_succ])
        (try simp only [List.set_cons_zero])
        refine wpAnyH_ready (rs := [7]) (by kernel_rfl) (by simp) ?_
        refine AllReadyH.cons (o := { dst := some 64, op := Op.call { callee := Callee.value (Operand.func 16), args := #[Operand.tmp 57, Operand.tmp 63], argTypes := #[32, 3] }, type := 4, pos := "ref.go:62", after := #[{ on := 0, ground := Ground.data }, { on := 6, ground := Ground.data }], guard := none }) rfl (fun K hK => ?_) AllReadyH.nil
        go_simp
        go_at_call 16
        refine (RM0.out _ BB.out).mono ?_
        rintro e v31 ⟨rfl, hb⟩
        replace P2 := Lib.hid (P2.out.below (hb))
        replace D3 := Lib.hid (D3.out.below (hb))
        replace BB := Lib.hid (BB.out.trans ((hb).mono BB.out.size))
        clear hb
        go_simp
        refine hK.out _ _ ?_ (fun hHeld => ?_)
        · exact ⟨(P2.out.cell 0), (P2.out.cell 1), (P2.out.cell 2), (P2.out.cell 3), (P2.out.cell 4), (P2.out.cell 5), (P2.out.cell 6), (P2.out.cell 7), (D3.out.cell 0), (D3.out.cell 1), (D3.out.cell 2), (D3.out.cell 3), (C0.out _ BB.out)⟩
        clear hK K
        (try simp only [Act.put])
        (try simp only [List.setIfInBounds_toArray])
        (try simp only [List.set_cons_succ])
        (try simp only [List.set_cons_zero])
        refine wpAnyH_take (i := 8) (oi := { dst := some 65, op := Op.unOp UnOp.not 4 (Operand.tmp 64), type := 4, pos := "ref.go:62", after := #[{ on := 7, ground := Ground.data }], guard := none }) (v := ?d32_8xv8) rfl (by kernel_rfl) (by kernel_rfl) (by kernel_rfl) (fun _ _ _ h => h) (Or.inl ⟨by rfl, ?d32_8xy8⟩) (by assumption) ?d32_8xr8
        case d32_8xy8 => (intro w hSw; (try dsimp only at hSw); go_simp; try with_reducible rfl)
        (try simp only [Act.put])
        (try simp only [List.setIfInBounds_toArray])
        (try simp only [List.set_cons_succ])
        (try simp only [List.set_cons_zero])
        refine wpAnyH_done (by kernel_rfl) ?_ _
        cases hm : mayI T C B e0 with
        | true =>
          go_wp2_with fail
          go_roundw
          case rel =>
            refine ⟨j + 1, by omega, by go_num, fun i h1 => ?_, P2.out, D3.out, BB.out⟩
            by_cases e : i = j
            · subst e; rw [HY.out]; exact hm
            · exact NO.out i (by omega)
          case measure => simp [intOf]; omega
        | false =>
          have e : r = false := by rw [← HR.out]; exact decide_eq_false (fun h => by have h := CZ.out.1 h; have := mayL_at h.2.2.2.2.2.2.2.1 (i := j) (by rw [HN.out]; exact hlt); rw [HY.out, hm] at this; cases this)
          subst e
          clear CZ
          go_wp2_with fail
          go_ret
          exact ⟨rfl, BB.out⟩
      · obtain rfl : j = n := by omega
        have e : r = true := by
          rw [← HR.out]
          refine decide_eq_true (CZ.out.2 ⟨hpm0, by omega, by omega, by omega, by omega, HC.out.1, HC.out.2, mayL_yes (fun i h1 => NO.out i (by rw [HN.out] at h1; exact h1)), by omega⟩)
        subst e
        clear CZ
        have y0 := D3.out.cell 0
        have y1 := D3.out.cell 1
        have y2 := D3.out.cell 2
        have y3 := D3.out.cell 3
        simp at y0 y1 y2 y3
        go_wp2_with fail
        go_ret
        exact ⟨rfl, BB.out⟩
end Go.Proofs.YtfegeahieajmkaaDoor
