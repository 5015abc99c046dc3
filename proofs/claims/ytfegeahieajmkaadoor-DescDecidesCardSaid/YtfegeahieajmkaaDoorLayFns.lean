/- Check and Size of a layout, and the first location of a unit, at all numbers. -/
import Derived.Test.YtfegeahieajmkaaDoorLayBase
import Derived.Deep.RegionLaw
namespace Go.Proofs.YtfegeahieajmkaaDoor.Lay
open Go.ChangeShapes Go.WideShapes Go.ChangeAt Go.RowKit

/-- A box that holds a layout, in a world behind w0. -/
structure At (T C B : Int) (n : Nat) (w0 W : World) : Prop where
  x : W.cell? ⟨n, 0, none⟩ = some (.int .i64 T) ∧ W.cell? ⟨n, 1, none⟩ = some (.int .i64 C) ∧ W.cell? ⟨n, 2, none⟩ = some (.int .i64 B)
  g : Gl W
  b : Below w0.heap.size w0 W
  lt : n < W.heap.size
theorem At.below {T C B : Int} {n : Nat} {w0 W W1 : World} (h : At T C B n w0 W) (hb : Below W.heap.size W W1) : At T C B n w0 W1 :=
  ⟨⟨(hb.cell h.lt).trans h.x.1, (hb.cell h.lt).trans h.x.2.1, (hb.cell h.lt).trans h.x.2.2⟩, h.g.below hb, h.b.trans (hb.mono h.b.size), Nat.lt_of_lt_of_le h.lt hb.size⟩
theorem At.box {T C B : Int} {w : World} (hg : Gl w) {n : Nat} (hn : n = w.heap.size) : At T C B n w (w.alloc (.cells #[.int .i64 T, .int .i64 C, .int .i64 B] 29)) := by
  subst hn
  exact ⟨⟨by simp [go_sem], by simp [go_sem], by simp [go_sem]⟩, hg.below (below1 _ _), below1 _ _, by simp⟩

/-- What is wrong with a layout. -/
def checkI (T C B : Int) : Int :=
  if T < 1 ∨ 8 < T ∨ C < 1 ∨ 2048 < C ∨ B < 0 ∨ 64 < B then 3 else if 4096 < startL T.toNat C.toNat B.toNat 7 then 19 else 0
theorem checkI_three {T C B : Int} (h : T < 1 ∨ 8 < T ∨ C < 1 ∨ 2048 < C ∨ B < 0 ∨ 64 < B) : checkI T C B = 3 := by unfold checkI; rw [if_pos h]
theorem checkI_in {T C B : Nat} (h : In T C B) : checkI T C B = if 4096 < startL T C B 7 then 19 else 0 := by
  obtain ⟨h1, h2, h3, h4, h5⟩ := h
  unfold checkI
  rw [if_neg (by omega)]
  simp
/-- Valid layouts. -/
def Ok (T C B : Nat) : Prop := In T C B ∧ startL T C B 7 ≤ 4096
theorem checkI_ok {T C B : Nat} (h : Ok T C B) : checkI T C B = 0 := by rw [checkI_in h.1, if_neg (by have := h.2; omega)]
theorem checkI_zero {T C B : Int} (h : checkI T C B = 0) : ∃ t c b : Nat, T = t ∧ C = c ∧ B = b ∧ Ok t c b := by
  by_cases hr : T < 1 ∨ 8 < T ∨ C < 1 ∨ 2048 < C ∨ B < 0 ∨ 64 < B
  · rw [checkI_three hr] at h; cases h
  · refine ⟨T.toNat, C.toNat, B.toNat, by omega, by omega, by omega, ⟨by omega, by omega, by omega, by omega, by omega⟩, ?_⟩
    unfold checkI at h
    rw [if_neg hr] at h
    split at h
    · cases h
    · omega
set_option maxRecDepth 100000 in
set_option maxHeartbeats 800000 in
theorem check_in (T C B : Nat) (w : World) (hi : In T C B) (hg : Gl w) : Calls Tryd.prog 39 #[LV T C B] w fun e w' => e = .returned (.int .i64 (checkI T C B)) ∧ Below w.heap.size w w' := by
  have A := Lib.hid (At.box (T := T) (C := C) (B := B) hg rfl)
  have HS : Hid (Calls Tryd.prog 50 #[LV T C B, .int .i64 7] (w.alloc (.cells #[.int .i64 T, .int .i64 C, .int .i64 B] 29)) fun e w' => e = .returned (.int .i64 (startL T C B 7)) ∧ Below (w.alloc (.cells #[.int .i64 T, .int .i64 C, .int .i64 B] 29)).heap.size (w.alloc (.cells #[.int .i64 T, .int .i64 C, .int .i64 B] 29)) w') := Lib.hid (start_any T C B 7 _ hi (by omega) A.out.g)
  rw [checkI_in hi]
  obtain ⟨h1, h2, h3, h4, h5⟩ := hi
  have g1 : ¬ (T : Int) < 1 := by omega
  have g2 : ¬ (8 : Int) < T := by omega
  have g3 : ¬ (C : Int) < 1 := by omega
  have g4 : ¬ (2048 : Int) < C := by omega
  have g5 : ¬ (B : Int) < 0 := by omega
  have g6 : ¬ (64 : Int) < B := by omega
  clear h1 h2 h3 h4 h5
  unfold LV at HS ⊢
  generalize startL T C B 7 = s7 at HS ⊢
  by_cases h : 4096 < s7
  · rw [if_pos h]
    have h' : (4096 : Int) < s7 := by omega
    go_enter Tryd.func39, Tryd.ntmps39
    go_wp2_with fail
    refine HS.out.mono ?_
    rintro e w1 ⟨rfl, hb⟩
    replace A := Lib.hid (A.out.below hb)
    clear hb HS
    go_wp2_with fail
    go_ret
    exact ⟨rfl, A.out.b⟩
  · rw [if_neg h]
    have h' : ¬ (4096 : Int) < s7 := by omega
    go_enter Tryd.func39, Tryd.ntmps39
    go_wp2_with fail
    refine HS.out.mono ?_
    rintro e w1 ⟨rfl, hb⟩
    replace A := Lib.hid (A.out.below hb)
    clear hb HS
    go_wp2_with fail
    go_ret
    exact ⟨rfl, A.out.b⟩
set_option maxRecDepth 100000 in
theorem check_o0 (T C B : Int) (w : World) (g0 : T < 1) : Calls Tryd.prog 39 #[LV T C B] w fun e w' => e = .returned (.int .i64 3) ∧ Below w.heap.size w w' := by
  have BB := Lib.hid (below1 w (.cells #[.int .i64 T, .int .i64 C, .int .i64 B] 29))
  unfold LV
  go_enter Tryd.func39, Tryd.ntmps39
  go_wp2_with fail
  go_ret
  exact ⟨rfl, BB.out⟩
set_option maxRecDepth 100000 in
theorem check_o1 (T C B : Int) (w : World) (g0 : ¬ T < 1) (g1 : 8 < T) : Calls Tryd.prog 39 #[LV T C B] w fun e w' => e = .returned (.int .i64 3) ∧ Below w.heap.size w w' := by
  have BB := Lib.hid (below1 w (.cells #[.int .i64 T, .int .i64 C, .int .i64 B] 29))
  unfold LV
  go_enter Tryd.func39, Tryd.ntmps39
  go_wp2_with fail
  go_ret
  exact ⟨rfl, BB.out⟩
set_option maxRecDepth 100000 in
theorem check_o2 (T C B : Int) (w : World) (g0 : ¬ T < 1) (g1 : ¬ 8 < T) (g2 : C < 1) : Calls Tryd.prog 39 #[LV T C B] w fun e w' => e = .returned (.int .i64 3) ∧ Below w.heap.size w w' := by
  have BB := Lib.hid (below1 w (.cells #[.int .i64 T, .int .i64 C, .int .i64 B] 29))
  unfold LV
  go_enter Tryd.func39, Tryd.ntmps39
  go_wp2_with fail
  go_ret
  exact ⟨rfl, BB.out⟩
set_option maxRecDepth 100000 in
theorem check_o3 (T C B : Int) (w : World) (g0 : ¬ T < 1) (g1 : ¬ 8 < T) (g2 : ¬ C < 1) (g3 : 2048 < C) : Calls Tryd.prog 39 #[LV T C B] w fun e w' => e = .returned (.int .i64 3) ∧ Below w.heap.size w w' := by
  have BB := Lib.hid (below1 w (.cells #[.int .i64 T, .int .i64 C, .int .i64 B] 29))
  unfold LV
  go_enter Tryd.func39, Tryd.ntmps39
  go_wp2_with fail
  go_ret
  exact ⟨rfl, BB.out⟩
set_option maxRecDepth 100000 in
theorem check_o4 (T C B : Int) (w : World) (g0 : ¬ T < 1) (g1 : ¬ 8 < T) (g2 : ¬ C < 1) (g3 : ¬ 2048 < C) (g4 : B < 0) : Calls Tryd.prog 39 #[LV T C B] w fun e w' => e = .returned (.int .i64 3) ∧ Below w.heap.size w w' := by
  have BB := Lib.hid (below1 w (.cells #[.int .i64 T, .int .i64 C, .int .i64 B] 29))
  unfold LV
  go_enter Tryd.func39, Tryd.ntmps39
  go_wp2_with fail
  go_ret
  exact ⟨rfl, BB.out⟩
set_option maxRecDepth 100000 in
theorem check_o5 (T C B : Int) (w : World) (g0 : ¬ T < 1) (g1 : ¬ 8 < T) (g2 : ¬ C < 1) (g3 : ¬ 2048 < C) (g4 : ¬ B < 0) (g5 : 64 < B) : Calls Tryd.prog 39 #[LV T C B] w fun e w' => e = .returned (.int .i64 3) ∧ Below w.heap.size w w' := by
  have BB := Lib.hid (below1 w (.cells #[.int .i64 T, .int .i64 C, .int .i64 B] 29))
  unfold LV
  go_enter Tryd.func39, Tryd.ntmps39
  go_wp2_with fail
  go_ret
  exact ⟨rfl, BB.out⟩
theorem check_any (T C B : Int) (w : World) (hg : Gl w) : Calls Tryd.prog 39 #[LV T C B] w fun e w' => e = .returned (.int .i64 (checkI T C B)) ∧ Below w.heap.size w w' := by
  by_cases g0 : T < 1
  · rw [checkI_three (by omega)]; exact check_o0 T C B w g0
  by_cases g1 : 8 < T
  · rw [checkI_three (by omega)]; exact check_o1 T C B w g0 g1
  by_cases g2 : C < 1
  · rw [checkI_three (by omega)]; exact check_o2 T C B w g0 g1 g2
  by_cases g3 : 2048 < C
  · rw [checkI_three (by omega)]; exact check_o3 T C B w g0 g1 g2 g3
  by_cases g4 : B < 0
  · rw [checkI_three (by omega)]; exact check_o4 T C B w g0 g1 g2 g3 g4
  by_cases g5 : 64 < B
  · rw [checkI_three (by omega)]; exact check_o5 T C B w g0 g1 g2 g3 g4 g5
  obtain ⟨t, rfl⟩ : ∃ t : Nat, T = t := ⟨T.toNat, by omega⟩
  obtain ⟨c, rfl⟩ : ∃ c : Nat, C = c := ⟨C.toNat, by omega⟩
  obtain ⟨b, rfl⟩ : ∃ b : Nat, B = b := ⟨B.toNat, by omega⟩
  exact check_in t c b w ⟨by omega, by omega, by omega, by omega, by omega⟩ hg
/-- The number of locations. -/
def sizeI (T C B : Int) : Int := if checkI T C B = 0 then (startL T.toNat C.toNat B.toNat 7 : Int) else 0
set_option maxRecDepth 100000 in
set_option maxHeartbeats 800000 in
theorem size_any (T C B : Int) (w : World) (hg : Gl w) : Calls Tryd.prog 38 #[LV T C B] w fun e w' => e = .returned (.int .i64 (sizeI T C B)) ∧ Below w.heap.size w w' := by
  have A := Lib.hid (At.box (T := T) (C := C) (B := B) hg rfl)
  have HC := Lib.hid (check_any T C B _ A.out.g)
  unfold sizeI
  by_cases h : checkI T C B = 0
  · rw [if_pos h]
    rw [h] at HC
    obtain ⟨t, c, b, rfl, rfl, rfl, hok⟩ := checkI_zero h
    have HO := Lib.hid hok
    clear h hok
    simp only [Int.toNat_natCast]
    unfold LV at HC ⊢
    go_enter Tryd.func38, Tryd.ntmps38
    go_wp2_with fail
    refine HC.out.mono ?_
    rintro e w1 ⟨rfl, hb⟩
    replace A := Lib.hid (A.out.below hb)
    clear hb HC
    obtain ⟨x0, x1, x2⟩ := A.out.x
    have HS : Hid (Calls Tryd.prog 50 #[LV t c b, .int .i64 7] w1 fun e w' => e = .returned (.int .i64 (startL t c b 7)) ∧ Below w1.heap.size w1 w') := Lib.hid (start_any t c b 7 _ HO.out.1 (by omega) A.out.g)
    unfold LV at HS
    go_wp2_with fail
    refine HS.out.mono ?_
    rintro e w2 ⟨rfl, hb⟩
    replace A := Lib.hid (A.out.below hb)
    clear hb HS x0 x1 x2
    go_wp2_with fail
    go_ret
    exact ⟨rfl, A.out.b⟩
  · rw [if_neg h]
    have hne : (checkI T C B != 0) = true := by simpa using h
    generalize checkI T C B = ch at *
    clear h
    unfold LV at HC ⊢
    go_enter Tryd.func38, Tryd.ntmps38
    go_wp2_with fail
    refine HC.out.mono ?_
    rintro e w1 ⟨rfl, hb⟩
    replace A := Lib.hid (A.out.below hb)
    clear hb HC
    go_wp2_with fail
    go_ret
    exact ⟨rfl, A.out.b⟩
/-- The first location of a unit of a region, or -1. -/
def unitI (T C B : Int) (r : Nat) (n : Int) : Int := if checkI T C B = 0 ∧ 0 ≤ n ∧ n < (unitsL T.toNat C.toNat B.toNat r : Int) then (startL T.toNat C.toNat B.toNat r : Int) + n * unitZ r else -1
theorem unitI_ok {T C B : Nat} (h : Ok T C B) (r : Nat) (n : Int) : unitI T C B r n = if 0 ≤ n ∧ n < (unitsL T C B r : Int) then (startL T C B r : Int) + n * unitZ r else -1 := by
  unfold unitI
  simp [checkI_ok h]
theorem unitI_no {T C B : Int} (h : checkI T C B ≠ 0) (r : Nat) (n : Int) : unitI T C B r n = -1 := by
  unfold unitI
  rw [if_neg (fun x => h x.1)]
theorem ixU (T C B : Nat) (k : Nat) (hk : k < 7) (w : World) : (Instr.index 102 (.agg #[.int .i64 1, .int .i64 T, .int .i64 T, .int .i64 (((C : Int) + 7) / 8), .int .i64 T, .int .i64 (min B 1 : Nat), .int .i64 B]) (.int .i64 k)).run Tryd.prog w = .ok (.int .i64 (unitsL T C B k)) w := by
  rcases (show k = 0 ∨ k = 1 ∨ k = 2 ∨ k = 3 ∨ k = 4 ∨ k = 5 ∨ k = 6 by omega) with rfl | rfl | rfl | rfl | rfl | rfl | rfl <;>
    simp [Instr.index, run_underlying Tryd.underlying102, asIntOf, go_sem, Tryd.isAgg3, Tryd.sizeOf3, unitsL]
set_option maxRecDepth 100000 in
set_option maxHeartbeats 800000 in
theorem unit_no (T C B : Int) (r : Nat) (n : Int) (w : World) (hg : Gl w) (h : checkI T C B ≠ 0) : Calls Tryd.prog 52 #[LV T C B, .int .i64 r, .int .i64 n] w fun e w' => e = .returned (.int .i64 (-1)) ∧ Below w.heap.size w w' := by
  have A := Lib.hid (At.box (T := T) (C := C) (B := B) hg rfl)
  have HC := Lib.hid (check_any T C B _ A.out.g)
  have hne : (checkI T C B != 0) = true := by simpa using h
  generalize checkI T C B = ch at *
  clear h
  unfold LV at HC ⊢
  go_enter Tryd.func52, Tryd.ntmps52
  go_wp2_with fail
  refine HC.out.mono ?_
  rintro e w1 ⟨rfl, hb⟩
  replace A := Lib.hid (A.out.below hb)
  clear hb HC
  go_wp2_with fail
  go_ret
  exact ⟨rfl, A.out.b⟩
set_option maxRecDepth 100000 in
set_option maxHeartbeats 800000 in
theorem unit_ok (T C B : Nat) (r : Nat) (n : Int) (w : World) (hg : Gl w) (hok : Ok T C B) (hr : r < 7) : Calls Tryd.prog 52 #[LV T C B, .int .i64 r, .int .i64 n] w fun e w' => e = .returned (.int .i64 (unitI T C B r n)) ∧ Below w.heap.size w w' := by
  have A := Lib.hid (At.box (T := T) (C := C) (B := B) hg rfl)
  have HC := Lib.hid (check_any T C B _ A.out.g)
  rw [checkI_ok hok] at HC
  rw [unitI_ok hok]
  have HO := Lib.hid hok
  clear hok
  unfold LV at HC ⊢
  by_cases h0 : n < 0
  · rw [if_neg (by omega)]
    go_enter Tryd.func52, Tryd.ntmps52
    go_wp2_with fail
    refine HC.out.mono ?_
    rintro e w1 ⟨rfl, hb⟩
    replace A := Lib.hid (A.out.below hb)
    clear hb HC
    go_wp2_with fail
    go_ret
    exact ⟨rfl, A.out.b⟩
  by_cases h1 : n < (unitsL T C B r : Int)
  · have h1' : ¬ (unitsL T C B r : Int) ≤ n := by omega
    rw [if_pos ⟨by omega, h1⟩]
    go_enter Tryd.func52, Tryd.ntmps52
    go_wp2_with fail
    refine HC.out.mono ?_
    rintro e w1 ⟨rfl, hb⟩
    replace A := Lib.hid (A.out.below hb)
    clear hb HC
    obtain ⟨x0, x1, x2⟩ := A.out.x
    have HU := Lib.hid (units_any T C B w1 HO.out.1)
    unfold LV unitsV at HU
    have ix := ixU T C B r hr
    go_wp2_with fail
    refine HU.out.mono ?_
    rintro e w2 ⟨rfl, hb⟩
    replace A := Lib.hid (A.out.below hb)
    clear hb HU x0 x1 x2
    go_wp2_with fail
    have i1 : At T C B w.heap.size w w2.drew := A.out.below (Below.refl _ _).drew
    obtain ⟨x0, x1, x2⟩ := A.out.x
    have c1 := A.out.g.z r hr
    have hu := unitsL_le T C B HO.out.1 r
    have hz := unitZ_le r
    have hs := startL_le T C B HO.out.1 r (by omega)
    obtain ⟨m, rfl⟩ : ∃ m : Nat, n = m := ⟨n.toNat, by omega⟩
    have hm : m * unitZ r ≤ 300 * 104 := Nat.mul_le_mul (by omega) hz
    have hm2 : ((m * unitZ r : Nat) : Int) = (m : Int) * unitZ r := by simp
    have hm3 : (m : Int) * unitZ r ≤ 31200 := by omega
    have hm4 : 0 ≤ (m : Int) * unitZ r := by omega
    have hw1 : IntKind.i64.wrap ((m : Int) * unitZ r) = (m : Int) * unitZ r := IntWalk.i64_in _ (by omega)
    have hw2 : IntKind.i64.wrap ((startL T C B r : Int) + (m : Int) * unitZ r) = (startL T C B r : Int) + (m : Int) * unitZ r := IntWalk.i64_in _ (by omega)
    have HS := Lib.hid (fun W hW => start_any T C B r W HO.out.1 (by omega) hW)
    clear A hm hm2 h1' h1 h0 hu
    have hr7 : (r : Int) < 7 := by omega
    have hr7' : ¬ (7 : Int) ≤ r := by omega
    have hr0 : ¬ (r : Int) < 0 := by omega
    have hrw : IntKind.i64.wrap (r : Int) = r := IntWalk.i64_in _ (by omega)
    go_region_law (go_simp; go_at_call 50; (with_reducible refine (HS.out _ i1.g).mono ?_); rintro e w5 ⟨rfl, hb5⟩; have i2 := i1.below hb5; clear hb5 i1; have i1 := i2; clear i2; have z1 := i1.g.z r hr)
    all_goals (
      go_wp2_with fail
      go_ret
      exact ⟨rfl, i1.b⟩)
  · have h1' : (unitsL T C B r : Int) ≤ n := by omega
    rw [if_neg (fun x => h1 x.2)]
    go_enter Tryd.func52, Tryd.ntmps52
    go_wp2_with fail
    refine HC.out.mono ?_
    rintro e w1 ⟨rfl, hb⟩
    replace A := Lib.hid (A.out.below hb)
    clear hb HC
    obtain ⟨x0, x1, x2⟩ := A.out.x
    have HU := Lib.hid (units_any T C B w1 HO.out.1)
    unfold LV unitsV at HU
    have ix := ixU T C B r hr
    go_wp2_with fail
    refine HU.out.mono ?_
    rintro e w2 ⟨rfl, hb⟩
    replace A := Lib.hid (A.out.below hb)
    clear hb HU x0 x1 x2
    go_wp2_with fail
    go_ret
    exact ⟨rfl, A.out.b⟩
theorem unit_any (T C B : Int) (r : Nat) (n : Int) (w : World) (hg : Gl w) (hr : r < 7) : Calls Tryd.prog 52 #[LV T C B, .int .i64 r, .int .i64 n] w fun e w' => e = .returned (.int .i64 (unitI T C B r n)) ∧ Below w.heap.size w w' := by
  by_cases h : checkI T C B = 0
  · obtain ⟨t, c, b, rfl, rfl, rfl, hok⟩ := checkI_zero h
    exact unit_ok t c b r n w hg hok hr
  · rw [unitI_no h]
    exact unit_no T C B r n w hg h
/-- The location behind the first one. -/
def secondI (x : Int) : Int := if x < 0 then -1 else x + 1
theorem second_any (x : Int) (w : World) (hx : x < 9223372036854775807) : Calls Tryd.prog 56 #[.int .i64 x] w fun e w' => e = .returned (.int .i64 (secondI x)) ∧ w = w' := by
  unfold secondI
  by_cases h : x < 0
  · rw [if_pos h]
    go_enter Tryd.func56, Tryd.ntmps56
    go_wp2
    go_ret
    exact ⟨rfl, rfl⟩
  · rw [if_neg h]
    go_enter Tryd.func56, Tryd.ntmps56
    go_wp2
    go_ret
    exact ⟨rfl, rfl⟩
theorem unitI_le (T C B : Int) (r : Nat) (n : Int) (hr : r < 7) : unitI T C B r n < 40000 := by
  by_cases h : checkI T C B = 0
  · obtain ⟨t, c, b, rfl, rfl, rfl, hok⟩ := checkI_zero h
    rw [unitI_ok hok]
    split
    · rename_i hn
      obtain ⟨m, rfl⟩ : ∃ m : Nat, n = m := ⟨n.toNat, by omega⟩
      have hu := unitsL_le t c b hok.1 r
      have hz := unitZ_le r
      have hs := startL_le t c b hok.1 r (by omega)
      have hm : m * unitZ r ≤ 300 * 104 := Nat.mul_le_mul (by omega) hz
      have hm2 : ((m * unitZ r : Nat) : Int) = (m : Int) * unitZ r := by simp
      omega
    · omega
  · rw [unitI_no h]; omega
/-- The first location of a thread's unit, or -1. -/
def threadI (T C B : Int) (r : Nat) (t : Int) : Int := if t < 1 then -1 else unitI T C B r (t - 1)
theorem threadI_le (T C B : Int) (r : Nat) (n : Int) (hr : r < 7) : threadI T C B r n < 40000 := by
  unfold threadI
  split
  · omega
  · exact unitI_le T C B r _ hr
set_option maxRecDepth 100000 in
theorem ofThread_any (T C B : Int) (r : Nat) (t : Int) (w : World) (hg : Gl w) (hr : r < 7) (ht : t < 9223372036854775808) : Calls Tryd.prog 51 #[LV T C B, .int .i64 r, .int .i64 t] w fun e w' => e = .returned (.int .i64 (threadI T C B r t)) ∧ Below w.heap.size w w' := by
  have A := Lib.hid (At.box (T := T) (C := C) (B := B) hg rfl)
  have HU := Lib.hid (unit_any T C B r (t - 1) _ A.out.g hr)
  unfold threadI
  by_cases h : t < 1
  · rw [if_pos h]
    go_enter Tryd.func51, Tryd.ntmps51
    go_wp2_with fail
    go_ret
    exact ⟨rfl, A.out.b⟩
  · rw [if_neg h]
    go_enter Tryd.func51, Tryd.ntmps51
    go_wp2_with fail
    refine HU.out.mono ?_
    rintro e w1 ⟨rfl, hb⟩
    replace A := Lib.hid (A.out.below hb)
    clear hb HU
    go_wp2_with fail
    go_ret
    exact ⟨rfl, A.out.b⟩
set_option maxRecDepth 100000 in
theorem slot_any (T C B t : Int) (w : World) (hg : Gl w) (ht : t < 9223372036854775808) : Calls Tryd.prog 37 #[LV T C B, .int .i64 t] w fun e w' => e = .returned (.int .i64 (threadI T C B 4 t)) ∧ Below w.heap.size w w' := by
  have A := Lib.hid (At.box (T := T) (C := C) (B := B) hg rfl)
  have HU : Hid (Calls Tryd.prog 51 #[LV T C B, .int .i64 4, .int .i64 t] (w.alloc (.cells #[.int .i64 T, .int .i64 C, .int .i64 B] 29)) fun e w' => e = .returned (.int .i64 (threadI T C B 4 t)) ∧ Below (w.alloc (.cells #[.int .i64 T, .int .i64 C, .int .i64 B] 29)).heap.size (w.alloc (.cells #[.int .i64 T, .int .i64 C, .int .i64 B] 29)) w') := Lib.hid (ofThread_any T C B 4 t _ A.out.g (by omega) ht)
  have hle := threadI_le T C B 4 t (by omega)
  generalize threadI T C B 4 t = x at *
  go_enter Tryd.func37, Tryd.ntmps37
  go_wp2_with fail
  refine HU.out.mono ?_
  rintro e w1 ⟨rfl, hb⟩
  replace A := Lib.hid (A.out.below hb)
  clear hb HU
  go_wp2_with fail
  go_ret
  exact ⟨rfl, A.out.b⟩
set_option maxRecDepth 100000 in
theorem era_any (T C B : Int) (w : World) (hg : Gl w) : Calls Tryd.prog 46 #[LV T C B] w fun e w' => e = .returned (.int .i64 (secondI (unitI T C B 0 0))) ∧ Below w.heap.size w w' := by
  have A := Lib.hid (At.box (T := T) (C := C) (B := B) hg rfl)
  have HU : Hid (Calls Tryd.prog 52 #[LV T C B, .int .i64 0, .int .i64 0] (w.alloc (.cells #[.int .i64 T, .int .i64 C, .int .i64 B] 29)) fun e w' => e = .returned (.int .i64 (unitI T C B 0 0)) ∧ Below (w.alloc (.cells #[.int .i64 T, .int .i64 C, .int .i64 B] 29)).heap.size (w.alloc (.cells #[.int .i64 T, .int .i64 C, .int .i64 B] 29)) w') := Lib.hid (unit_any T C B 0 0 _ A.out.g (by omega))
  have hle := unitI_le T C B 0 0 (by omega)
  generalize unitI T C B 0 0 = x at *
  go_enter Tryd.func46, Tryd.ntmps46
  go_wp2_with fail
  refine HU.out.mono ?_
  rintro e w1 ⟨rfl, hb⟩
  replace A := Lib.hid (A.out.below hb)
  clear hb HU
  go_wp2_with fail
  refine (second_any x _ (by omega)).mono ?_
  rintro e w2 ⟨rfl, rfl⟩
  go_wp2_with fail
  go_ret
  exact ⟨rfl, A.out.b⟩
set_option maxRecDepth 100000 in
theorem block_any (T C B i : Int) (w : World) (hg : Gl w) : Calls Tryd.prog 40 #[LV T C B, .int .i64 i] w fun e w' => e = .returned (.int .i64 (unitI T C B 6 i)) ∧ Below w.heap.size w w' := by
  have A := Lib.hid (At.box (T := T) (C := C) (B := B) hg rfl)
  have HU : Hid (Calls Tryd.prog 52 #[LV T C B, .int .i64 6, .int .i64 i] (w.alloc (.cells #[.int .i64 T, .int .i64 C, .int .i64 B] 29)) fun e w' => e = .returned (.int .i64 (unitI T C B 6 i)) ∧ Below (w.alloc (.cells #[.int .i64 T, .int .i64 C, .int .i64 B] 29)).heap.size (w.alloc (.cells #[.int .i64 T, .int .i64 C, .int .i64 B] 29)) w') := Lib.hid (unit_any T C B 6 i _ A.out.g (by omega))
  have hle := unitI_le T C B 6 i (by omega)
  generalize unitI T C B 6 i = x at *
  go_enter Tryd.func40, Tryd.ntmps40
  go_wp2_with fail
  refine HU.out.mono ?_
  rintro e w1 ⟨rfl, hb⟩
  replace A := Lib.hid (A.out.below hb)
  clear hb HU
  go_wp2_with fail
  go_ret
  exact ⟨rfl, A.out.b⟩
end Go.Proofs.YtfegeahieajmkaaDoor.Lay
