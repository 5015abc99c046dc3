/- Statement LayoutPlaces: the walk through the law for every layout and every two integers. -/
import Derived.Test.YtgndlknlahglcaaDoorLayLaw
import Derived.Deep.Cut
namespace Go.Proofs.YtgndlknlahglcaaDoor.layoutPlaces
open Go.ChangeShapes Go.WideShapes Go.ChangeAt Go.RowKit Go.Maps

def Good (w : World) (e : Ending) (w' : World) : Prop := e = .returned (.bool true) ∧ Below w.heap.size w w'
/-- The layout's box, the box of the list, and the list. -/
structure PL (T C B : Int) (n q : Nat) (v : Value) (L : List Pk) (w W : World) : Prop where
  a : At T C B n w W
  c : W.cell? ⟨q, 0, none⟩ = some v
  l : q < W.heap.size
  p : PS W v L
theorem PL.below {T C B : Int} {n q : Nat} {v : Value} {L : List Pk} {w W W1 : World} (h : PL T C B n q v L w W) (hb : Below W.heap.size W W1) : PL T C B n q v L w W1 :=
  ⟨h.a.below hb, (hb.cell h.l).trans h.c, Nat.lt_of_lt_of_le h.l hb.size, h.p.below hb⟩
set_option maxRecDepth 100000 in
theorem clo_any {T C B : Int} {n q : Nat} {va : Option Addr} {vc : Nat} {L : List Pk} {w W : World} (a b : Int) (hl : L.length ≤ 100000) (P : PL T C B n q (.slice va L.length vc) L w W) :
    Calls Tryd.prog 14 #[.int .i64 a, .int .i64 b, .pointer (some ⟨q, 0, none⟩)] W fun e W' => e = .returned (.int .i64 (findL (a, b, 0) L 0)) ∧ Below W.heap.size W W' := by
  have c := P.c
  have HF := Lib.hid (find_any _ L a b 0 W hl P.p)
  clear P
  go_enter Tryd.func14, Tryd.ntmps14
  go_wp2_with fail
  refine HF.out.mono ?_
  rintro e w1 ⟨rfl, hb⟩
  have BB := Lib.hid hb
  clear hb HF
  go_wp2_with fail
  go_ret
  exact ⟨rfl, BB.out⟩
set_option maxRecDepth 100000 in
set_option maxHeartbeats 3200000 in
theorem walk_no (T C B t i : Int) (w : World) (hg : Gl w) (ht : t < 9223372036854775808) (_hi : i < 9223372036854775808) (h9 : findL (9, i, 0) (allI T C B) 0 < 0) : Calls Tryd.prog 4 #[LV T C B, .int .i64 t, .int .i64 i] w (Good w) := by
  have A := Lib.hid (At.box (T := T) (C := C) (B := B) hg rfl)
  have HLN : Hid ((allI T C B).length ≤ 100000) := Lib.hid (allI_len T C B)
  have E1 := Lib.hid (eq_clock T C B)
  have E2 := Lib.hid (eq_era T C B)
  have E3 := Lib.hid (eq_ann T C B t)
  have E4 := Lib.hid (eq_haz T C B t)
  have E5 := Lib.hid (eq_rec T C B t)
  have E6 := Lib.hid (eq_cell T C B i)
  have E7 := Lib.hid (eq_slot T C B t)
  have E9 := Lib.hid (eq_block T C B i)
  have EB := Lib.hid (eq_bits_no T C B i h9)
  have HF := Lib.hid h9
  clear h9
  clear hg
  unfold Good
  go_enter Tryd.func4, Tryd.ntmps4
  go_wp2_with fail
  refine (lall_any T C B _ A.out.g).mono ?_
  rintro e w1 ⟨v, rfl, hps, hb⟩
  replace A := Lib.hid (A.out.below hb)
  have PP := Lib.hid hps
  clear hb
  obtain ⟨va, vc, hv, -⟩ := hps
  subst hv
  obtain ⟨L, hL⟩ : ∃ L, allI T C B = L := ⟨_, rfl⟩
  rw [hL] at HF E1 E2 E3 E4 E5 E6 E7 E9 HLN PP ⊢
  clear hL
  have P : Hid (PL T C B w.heap.size w1.heap.size (.slice va L.length vc) L w (w1.alloc (.cells #[.slice va L.length vc] 29))) := Lib.hid ⟨A.out.below (below1 _ _), by simp [go_sem], by simp, PP.out.below (below1 _ _)⟩
  clear A PP
  obtain ⟨q, hq⟩ : ∃ q, w1.heap.size = q := ⟨_, rfl⟩
  rw [hq] at P
  obtain ⟨n, hn⟩ : ∃ n, w.heap.size = n := ⟨_, rfl⟩
  rw [hn] at P
  obtain ⟨x0, x1, x2⟩ := P.out.a.x
  have cq := P.out.c
  go_wp2_with fail
  clear hn hq x0 x1 x2 cq
  generalize w1.alloc (.cells #[.slice va L.length vc] 29) = W0 at *
  obtain ⟨x0, x1, x2⟩ := P.out.a.x
  have cq := P.out.c
  have h9 : ¬ 0 ≤ findL (9, i, 0) L 0 := by have := HF.out; omega
  refine (bits_any T C B i _ P.out.a.g).mono ?_
  rintro e w5 ⟨rfl, hb⟩
  rw [EB.out]
  replace P := Lib.hid (P.out.below hb)
  clear hb x0 x1 x2 cq
  obtain ⟨x0, x1, x2⟩ := P.out.a.x
  have cq := P.out.c
  go_wp2_with fail
  refine (clo_any 9 i HLN.out P.out).mono ?_
  rintro e w5 ⟨rfl, hb⟩
  replace P := Lib.hid (P.out.below hb)
  clear hb x0 x1 x2 cq
  obtain ⟨x0, x1, x2⟩ := P.out.a.x
  have cq := P.out.c
  go_wp2_with fail
  refine (clock_any T C B _ P.out.a.g).mono ?_
  rintro e w5 ⟨rfl, hb⟩
  rw [E1.out]
  replace P := Lib.hid (P.out.below hb)
  clear hb x0 x1 x2 cq
  obtain ⟨x0, x1, x2⟩ := P.out.a.x
  have cq := P.out.c
  go_wp2_with fail
  refine (clo_any 1 0 HLN.out P.out).mono ?_
  rintro e w5 ⟨rfl, hb⟩
  replace P := Lib.hid (P.out.below hb)
  clear hb x0 x1 x2 cq
  obtain ⟨x0, x1, x2⟩ := P.out.a.x
  have cq := P.out.c
  go_wp2_with fail
  refine (era_any T C B _ P.out.a.g).mono ?_
  rintro e w5 ⟨rfl, hb⟩
  rw [E2.out]
  replace P := Lib.hid (P.out.below hb)
  clear hb x0 x1 x2 cq
  obtain ⟨x0, x1, x2⟩ := P.out.a.x
  have cq := P.out.c
  go_wp2_with fail
  refine (clo_any 2 0 HLN.out P.out).mono ?_
  rintro e w5 ⟨rfl, hb⟩
  replace P := Lib.hid (P.out.below hb)
  clear hb x0 x1 x2 cq
  obtain ⟨x0, x1, x2⟩ := P.out.a.x
  have cq := P.out.c
  go_wp2_with fail
  refine (announce_any T C B t _ P.out.a.g ht).mono ?_
  rintro e w5 ⟨rfl, hb⟩
  rw [E3.out]
  replace P := Lib.hid (P.out.below hb)
  clear hb x0 x1 x2 cq
  obtain ⟨x0, x1, x2⟩ := P.out.a.x
  have cq := P.out.c
  go_wp2_with fail
  refine (clo_any 3 t HLN.out P.out).mono ?_
  rintro e w5 ⟨rfl, hb⟩
  replace P := Lib.hid (P.out.below hb)
  clear hb x0 x1 x2 cq
  obtain ⟨x0, x1, x2⟩ := P.out.a.x
  have cq := P.out.c
  go_wp2_with fail
  refine (hazard_any T C B t _ P.out.a.g ht).mono ?_
  rintro e w5 ⟨rfl, hb⟩
  rw [E4.out]
  replace P := Lib.hid (P.out.below hb)
  clear hb x0 x1 x2 cq
  obtain ⟨x0, x1, x2⟩ := P.out.a.x
  have cq := P.out.c
  go_wp2_with fail
  refine (clo_any 4 t HLN.out P.out).mono ?_
  rintro e w5 ⟨rfl, hb⟩
  replace P := Lib.hid (P.out.below hb)
  clear hb x0 x1 x2 cq
  obtain ⟨x0, x1, x2⟩ := P.out.a.x
  have cq := P.out.c
  go_wp2_with fail
  refine (awake_any _ P.out.a.g).mono ?_
  rintro e w5 ⟨rfl, hb⟩
  replace P := Lib.hid (P.out.below hb)
  clear hb x0 x1 x2 cq
  obtain ⟨x0, x1, x2⟩ := P.out.a.x
  have cq := P.out.c
  go_wp2_with fail
  refine (record_any T C B t _ P.out.a.g ht).mono ?_
  rintro e w5 ⟨rfl, hb⟩
  rw [E5.out]
  replace P := Lib.hid (P.out.below hb)
  clear hb x0 x1 x2 cq
  obtain ⟨x0, x1, x2⟩ := P.out.a.x
  have cq := P.out.c
  go_wp2_with fail
  refine (clo_any 5 t HLN.out P.out).mono ?_
  rintro e w5 ⟨rfl, hb⟩
  replace P := Lib.hid (P.out.below hb)
  clear hb x0 x1 x2 cq
  obtain ⟨x0, x1, x2⟩ := P.out.a.x
  have cq := P.out.c
  go_wp2_with fail
  refine (slot_any T C B t _ P.out.a.g ht).mono ?_
  rintro e w5 ⟨rfl, hb⟩
  rw [E7.out]
  replace P := Lib.hid (P.out.below hb)
  clear hb x0 x1 x2 cq
  obtain ⟨x0, x1, x2⟩ := P.out.a.x
  have cq := P.out.c
  go_wp2_with fail
  refine (clo_any 7 t HLN.out P.out).mono ?_
  rintro e w5 ⟨rfl, hb⟩
  replace P := Lib.hid (P.out.below hb)
  clear hb x0 x1 x2 cq
  obtain ⟨x0, x1, x2⟩ := P.out.a.x
  have cq := P.out.c
  go_wp2_with fail
  refine (cell_any T C B i _ P.out.a.g).mono ?_
  rintro e w5 ⟨rfl, hb⟩
  rw [E6.out]
  replace P := Lib.hid (P.out.below hb)
  clear hb x0 x1 x2 cq
  obtain ⟨x0, x1, x2⟩ := P.out.a.x
  have cq := P.out.c
  go_wp2_with fail
  refine (clo_any 6 i HLN.out P.out).mono ?_
  rintro e w5 ⟨rfl, hb⟩
  replace P := Lib.hid (P.out.below hb)
  clear hb x0 x1 x2 cq
  obtain ⟨x0, x1, x2⟩ := P.out.a.x
  have cq := P.out.c
  go_wp2_with fail
  refine (block_any T C B i _ P.out.a.g).mono ?_
  rintro e w5 ⟨rfl, hb⟩
  rw [E9.out]
  replace P := Lib.hid (P.out.below hb)
  clear hb x0 x1 x2 cq
  obtain ⟨x0, x1, x2⟩ := P.out.a.x
  have cq := P.out.c
  go_wp2_with fail
  refine (clo_any 9 i HLN.out P.out).mono ?_
  rintro e w5 ⟨rfl, hb⟩
  replace P := Lib.hid (P.out.below hb)
  clear hb x0 x1 x2 cq
  obtain ⟨x0, x1, x2⟩ := P.out.a.x
  have cq := P.out.c
  go_wp2_with fail
  go_ret
  exact ⟨rfl, P.out.a.b⟩
set_option maxRecDepth 100000 in
set_option maxHeartbeats 3200000 in
theorem walk_yes (T C B t i : Int) (w : World) (hg : Gl w) (ht : t < 9223372036854775808) (_hi : i < 9223372036854775808) (h9 : 0 ≤ findL (9, i, 0) (allI T C B) 0) : Calls Tryd.prog 4 #[LV T C B, .int .i64 t, .int .i64 i] w (Good w) := by
  have A := Lib.hid (At.box (T := T) (C := C) (B := B) hg rfl)
  have HLN : Hid ((allI T C B).length ≤ 100000) := Lib.hid (allI_len T C B)
  have E1 := Lib.hid (eq_clock T C B)
  have E2 := Lib.hid (eq_era T C B)
  have E3 := Lib.hid (eq_ann T C B t)
  have E4 := Lib.hid (eq_haz T C B t)
  have E5 := Lib.hid (eq_rec T C B t)
  have E6 := Lib.hid (eq_cell T C B i)
  have E7 := Lib.hid (eq_slot T C B t)
  have E9 := Lib.hid (eq_block T C B i)
  obtain ⟨m, rfl, hm64, eb⟩ := eq_bits T C B i h9
  have EB := Lib.hid eb
  have HF := Lib.hid h9
  clear h9 eb
  clear hg
  unfold Good
  go_enter Tryd.func4, Tryd.ntmps4
  go_wp2_with fail
  refine (lall_any T C B _ A.out.g).mono ?_
  rintro e w1 ⟨v, rfl, hps, hb⟩
  replace A := Lib.hid (A.out.below hb)
  have PP := Lib.hid hps
  clear hb
  obtain ⟨va, vc, hv, -⟩ := hps
  subst hv
  obtain ⟨L, hL⟩ : ∃ L, allI T C B = L := ⟨_, rfl⟩
  rw [hL] at HF EB E1 E2 E3 E4 E5 E6 E7 E9 HLN PP ⊢
  clear hL
  have P : Hid (PL T C B w.heap.size w1.heap.size (.slice va L.length vc) L w (w1.alloc (.cells #[.slice va L.length vc] 29))) := Lib.hid ⟨A.out.below (below1 _ _), by simp [go_sem], by simp, PP.out.below (below1 _ _)⟩
  clear A PP
  obtain ⟨q, hq⟩ : ∃ q, w1.heap.size = q := ⟨_, rfl⟩
  rw [hq] at P
  obtain ⟨n, hn⟩ : ∃ n, w.heap.size = n := ⟨_, rfl⟩
  rw [hn] at P
  obtain ⟨x0, x1, x2⟩ := P.out.a.x
  have cq := P.out.c
  go_wp2_with fail
  clear hn hq x0 x1 x2 cq
  generalize w1.alloc (.cells #[.slice va L.length vc] 29) = W0 at *
  obtain ⟨x0, x1, x2⟩ := P.out.a.x
  have cq := P.out.c
  have h9 : 0 ≤ findL (9, (m : Int), 0) L 0 := HF.out
  refine (bits_any T C B m _ P.out.a.g).mono ?_
  rintro e w5 ⟨rfl, hb⟩
  rw [EB.out]
  replace P := Lib.hid (P.out.below hb)
  clear hb x0 x1 x2 cq
  obtain ⟨x0, x1, x2⟩ := P.out.a.x
  have cq := P.out.c
  go_wp2_with fail
  refine (clo_any 9 m HLN.out P.out).mono ?_
  rintro e w5 ⟨rfl, hb⟩
  replace P := Lib.hid (P.out.below hb)
  clear hb x0 x1 x2 cq
  obtain ⟨x0, x1, x2⟩ := P.out.a.x
  have cq := P.out.c
  go_wp2_with fail
  have P1 := Lib.hid (P.out.below (Below.refl _ _).drew)
  have sh := shl_run m
  have hw1 : IntKind.i64.wrap ((m : Int) / 32) = (m : Int) / 32 := IntWalk.i64_in _ (by omega)
  go_region_law (go_simp; go_at_call 14; (with_reducible refine (clo_any 8 ((m : Int) / 32) HLN.out P1.out).mono ?_); rintro e w5 ⟨rfl, hb⟩; have P2 := Lib.hid (P1.out.below hb); clear hb P1; have P1 := P2; clear P2)
  clear P x0 x1 x2 cq
  have P := P1
  clear P1 sh hw1
  obtain ⟨x0, x1, x2⟩ := P.out.a.x
  have cq := P.out.c
  go_wp2_with fail
  refine (clock_any T C B _ P.out.a.g).mono ?_
  rintro e w5 ⟨rfl, hb⟩
  rw [E1.out]
  replace P := Lib.hid (P.out.below hb)
  clear hb x0 x1 x2 cq
  obtain ⟨x0, x1, x2⟩ := P.out.a.x
  have cq := P.out.c
  go_wp2_with fail
  refine (clo_any 1 0 HLN.out P.out).mono ?_
  rintro e w5 ⟨rfl, hb⟩
  replace P := Lib.hid (P.out.below hb)
  clear hb x0 x1 x2 cq
  obtain ⟨x0, x1, x2⟩ := P.out.a.x
  have cq := P.out.c
  go_wp2_with fail
  refine (era_any T C B _ P.out.a.g).mono ?_
  rintro e w5 ⟨rfl, hb⟩
  rw [E2.out]
  replace P := Lib.hid (P.out.below hb)
  clear hb x0 x1 x2 cq
  obtain ⟨x0, x1, x2⟩ := P.out.a.x
  have cq := P.out.c
  go_wp2_with fail
  refine (clo_any 2 0 HLN.out P.out).mono ?_
  rintro e w5 ⟨rfl, hb⟩
  replace P := Lib.hid (P.out.below hb)
  clear hb x0 x1 x2 cq
  obtain ⟨x0, x1, x2⟩ := P.out.a.x
  have cq := P.out.c
  go_wp2_with fail
  refine (announce_any T C B t _ P.out.a.g ht).mono ?_
  rintro e w5 ⟨rfl, hb⟩
  rw [E3.out]
  replace P := Lib.hid (P.out.below hb)
  clear hb x0 x1 x2 cq
  obtain ⟨x0, x1, x2⟩ := P.out.a.x
  have cq := P.out.c
  go_wp2_with fail
  refine (clo_any 3 t HLN.out P.out).mono ?_
  rintro e w5 ⟨rfl, hb⟩
  replace P := Lib.hid (P.out.below hb)
  clear hb x0 x1 x2 cq
  obtain ⟨x0, x1, x2⟩ := P.out.a.x
  have cq := P.out.c
  go_wp2_with fail
  refine (hazard_any T C B t _ P.out.a.g ht).mono ?_
  rintro e w5 ⟨rfl, hb⟩
  rw [E4.out]
  replace P := Lib.hid (P.out.below hb)
  clear hb x0 x1 x2 cq
  obtain ⟨x0, x1, x2⟩ := P.out.a.x
  have cq := P.out.c
  go_wp2_with fail
  refine (clo_any 4 t HLN.out P.out).mono ?_
  rintro e w5 ⟨rfl, hb⟩
  replace P := Lib.hid (P.out.below hb)
  clear hb x0 x1 x2 cq
  obtain ⟨x0, x1, x2⟩ := P.out.a.x
  have cq := P.out.c
  go_wp2_with fail
  refine (awake_any _ P.out.a.g).mono ?_
  rintro e w5 ⟨rfl, hb⟩
  replace P := Lib.hid (P.out.below hb)
  clear hb x0 x1 x2 cq
  obtain ⟨x0, x1, x2⟩ := P.out.a.x
  have cq := P.out.c
  go_wp2_with fail
  refine (record_any T C B t _ P.out.a.g ht).mono ?_
  rintro e w5 ⟨rfl, hb⟩
  rw [E5.out]
  replace P := Lib.hid (P.out.below hb)
  clear hb x0 x1 x2 cq
  obtain ⟨x0, x1, x2⟩ := P.out.a.x
  have cq := P.out.c
  go_wp2_with fail
  refine (clo_any 5 t HLN.out P.out).mono ?_
  rintro e w5 ⟨rfl, hb⟩
  replace P := Lib.hid (P.out.below hb)
  clear hb x0 x1 x2 cq
  obtain ⟨x0, x1, x2⟩ := P.out.a.x
  have cq := P.out.c
  go_wp2_with fail
  refine (slot_any T C B t _ P.out.a.g ht).mono ?_
  rintro e w5 ⟨rfl, hb⟩
  rw [E7.out]
  replace P := Lib.hid (P.out.below hb)
  clear hb x0 x1 x2 cq
  obtain ⟨x0, x1, x2⟩ := P.out.a.x
  have cq := P.out.c
  go_wp2_with fail
  refine (clo_any 7 t HLN.out P.out).mono ?_
  rintro e w5 ⟨rfl, hb⟩
  replace P := Lib.hid (P.out.below hb)
  clear hb x0 x1 x2 cq
  obtain ⟨x0, x1, x2⟩ := P.out.a.x
  have cq := P.out.c
  go_wp2_with fail
  refine (cell_any T C B m _ P.out.a.g).mono ?_
  rintro e w5 ⟨rfl, hb⟩
  rw [E6.out]
  replace P := Lib.hid (P.out.below hb)
  clear hb x0 x1 x2 cq
  obtain ⟨x0, x1, x2⟩ := P.out.a.x
  have cq := P.out.c
  go_wp2_with fail
  refine (clo_any 6 m HLN.out P.out).mono ?_
  rintro e w5 ⟨rfl, hb⟩
  replace P := Lib.hid (P.out.below hb)
  clear hb x0 x1 x2 cq
  obtain ⟨x0, x1, x2⟩ := P.out.a.x
  have cq := P.out.c
  go_wp2_with fail
  refine (block_any T C B m _ P.out.a.g).mono ?_
  rintro e w5 ⟨rfl, hb⟩
  rw [E9.out]
  replace P := Lib.hid (P.out.below hb)
  clear hb x0 x1 x2 cq
  obtain ⟨x0, x1, x2⟩ := P.out.a.x
  have cq := P.out.c
  go_wp2_with fail
  refine (clo_any 9 m HLN.out P.out).mono ?_
  rintro e w5 ⟨rfl, hb⟩
  replace P := Lib.hid (P.out.below hb)
  clear hb x0 x1 x2 cq
  obtain ⟨x0, x1, x2⟩ := P.out.a.x
  have cq := P.out.c
  go_wp2_with fail
  go_ret
  exact ⟨rfl, P.out.a.b⟩
theorem walk (T C B t i : Int) (w : World) (hg : Gl w) (ht : t < 9223372036854775808) (hi : i < 9223372036854775808) (_ht : -9223372036854775808 ≤ t) (_hi : -9223372036854775808 ≤ i) : Calls Tryd.prog 4 #[LV T C B, .int .i64 t, .int .i64 i] w (Good w) := by
  by_cases h9 : findL (9, i, 0) (allI T C B) 0 < 0
  · exact walk_no T C B t i w hg ht hi h9
  · exact walk_yes T C B t i w hg ht hi (by omega)
end Go.Proofs.YtgndlknlahglcaaDoor.layoutPlaces
