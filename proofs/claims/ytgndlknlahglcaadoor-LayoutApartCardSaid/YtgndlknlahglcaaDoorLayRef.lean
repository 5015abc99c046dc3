/- Check of the reference, and all of the statements. -/
import Derived.Test.YtgndlknlahglcaaDoorLayAll
import Derived.Test.YtgndlknlahglcaaDoorLayAwake
namespace Go.Proofs.YtgndlknlahglcaaDoor
open Go.ChangeShapes Go.WideShapes Go.ChangeAt Go.RowKit Go.Maps

theorem OutIs.ps {w wr : World} {T C B : Nat} {ov : Value} (h : OutIs w T C B (startL T C B 7) ov wr) : PS wr ov (allL T C B) := h.r.ps
set_option maxRecDepth 100000 in
set_option maxHeartbeats 800000 in
theorem rcheck_in (T C B : Nat) (w : World) (hi : In T C B) : Calls Tryd.prog 11 #[.int .i64 T, .int .i64 C, .int .i64 B] w fun e w' => e = .returned (.int .i64 (checkI T C B)) ∧ Below w.heap.size w w' := by
  have HA := Lib.hid (all_any T C B w hi)
  have hs := startL_le T C B hi 7 (by omega)
  rw [checkI_in hi]
  obtain ⟨h1, h2, h3, h4, h5⟩ := hi
  have g1 : ¬ (T : Int) < 1 := by omega
  have g2 : ¬ (8 : Int) < T := by omega
  have g3 : ¬ (C : Int) < 1 := by omega
  have g4 : ¬ (2048 : Int) < C := by omega
  have g5 : ¬ (B : Int) < 0 := by omega
  have g6 : ¬ (64 : Int) < B := by omega
  clear h1 h2 h3 h4 h5
  by_cases h : 4096 < startL T C B 7
  · rw [if_pos h]
    have h' : (4096 : Int) < startL T C B 7 := by omega
    go_enter Tryd.func11, Tryd.ntmps11
    go_wp2_with fail
    refine HA.out.mono ?_
    rintro e w1 ⟨v, rfl, ho⟩
    obtain ⟨oa, oc, rfl⟩ := ho.slice
    have O := Lib.hid ho
    clear ho HA
    go_wp2_with fail
    go_ret
    exact ⟨rfl, O.out.b⟩
  · rw [if_neg h]
    have h' : ¬ (4096 : Int) < startL T C B 7 := by omega
    go_enter Tryd.func11, Tryd.ntmps11
    go_wp2_with fail
    refine HA.out.mono ?_
    rintro e w1 ⟨v, rfl, ho⟩
    obtain ⟨oa, oc, rfl⟩ := ho.slice
    have O := Lib.hid ho
    clear ho HA
    go_wp2_with fail
    go_ret
    exact ⟨rfl, O.out.b⟩
set_option maxRecDepth 100000 in
theorem rcheck_o0 (T C B : Int) (w : World) (g0 : T < 1) : Calls Tryd.prog 11 #[.int .i64 T, .int .i64 C, .int .i64 B] w fun e w' => e = .returned (.int .i64 3) ∧ Below w.heap.size w w' := by
  go_enter Tryd.func11, Tryd.ntmps11
  go_wp2_with fail
  go_ret
  exact ⟨rfl, Below.refl _ _⟩
set_option maxRecDepth 100000 in
theorem rcheck_o1 (T C B : Int) (w : World) (g0 : ¬ T < 1) (g1 : 8 < T) : Calls Tryd.prog 11 #[.int .i64 T, .int .i64 C, .int .i64 B] w fun e w' => e = .returned (.int .i64 3) ∧ Below w.heap.size w w' := by
  go_enter Tryd.func11, Tryd.ntmps11
  go_wp2_with fail
  go_ret
  exact ⟨rfl, Below.refl _ _⟩
set_option maxRecDepth 100000 in
theorem rcheck_o2 (T C B : Int) (w : World) (g0 : ¬ T < 1) (g1 : ¬ 8 < T) (g2 : C < 1) : Calls Tryd.prog 11 #[.int .i64 T, .int .i64 C, .int .i64 B] w fun e w' => e = .returned (.int .i64 3) ∧ Below w.heap.size w w' := by
  go_enter Tryd.func11, Tryd.ntmps11
  go_wp2_with fail
  go_ret
  exact ⟨rfl, Below.refl _ _⟩
set_option maxRecDepth 100000 in
theorem rcheck_o3 (T C B : Int) (w : World) (g0 : ¬ T < 1) (g1 : ¬ 8 < T) (g2 : ¬ C < 1) (g3 : 2048 < C) : Calls Tryd.prog 11 #[.int .i64 T, .int .i64 C, .int .i64 B] w fun e w' => e = .returned (.int .i64 3) ∧ Below w.heap.size w w' := by
  go_enter Tryd.func11, Tryd.ntmps11
  go_wp2_with fail
  go_ret
  exact ⟨rfl, Below.refl _ _⟩
set_option maxRecDepth 100000 in
theorem rcheck_o4 (T C B : Int) (w : World) (g0 : ¬ T < 1) (g1 : ¬ 8 < T) (g2 : ¬ C < 1) (g3 : ¬ 2048 < C) (g4 : B < 0) : Calls Tryd.prog 11 #[.int .i64 T, .int .i64 C, .int .i64 B] w fun e w' => e = .returned (.int .i64 3) ∧ Below w.heap.size w w' := by
  go_enter Tryd.func11, Tryd.ntmps11
  go_wp2_with fail
  go_ret
  exact ⟨rfl, Below.refl _ _⟩
set_option maxRecDepth 100000 in
theorem rcheck_o5 (T C B : Int) (w : World) (g0 : ¬ T < 1) (g1 : ¬ 8 < T) (g2 : ¬ C < 1) (g3 : ¬ 2048 < C) (g4 : ¬ B < 0) (g5 : 64 < B) : Calls Tryd.prog 11 #[.int .i64 T, .int .i64 C, .int .i64 B] w fun e w' => e = .returned (.int .i64 3) ∧ Below w.heap.size w w' := by
  go_enter Tryd.func11, Tryd.ntmps11
  go_wp2_with fail
  go_ret
  exact ⟨rfl, Below.refl _ _⟩
theorem rcheck_any (T C B : Int) (w : World) : Calls Tryd.prog 11 #[.int .i64 T, .int .i64 C, .int .i64 B] w fun e w' => e = .returned (.int .i64 (checkI T C B)) ∧ Below w.heap.size w w' := by
  by_cases g0 : T < 1
  · rw [checkI_three (by omega)]; exact rcheck_o0 T C B w g0
  by_cases g1 : 8 < T
  · rw [checkI_three (by omega)]; exact rcheck_o1 T C B w g0 g1
  by_cases g2 : C < 1
  · rw [checkI_three (by omega)]; exact rcheck_o2 T C B w g0 g1 g2
  by_cases g3 : 2048 < C
  · rw [checkI_three (by omega)]; exact rcheck_o3 T C B w g0 g1 g2 g3
  by_cases g4 : B < 0
  · rw [checkI_three (by omega)]; exact rcheck_o4 T C B w g0 g1 g2 g3 g4
  by_cases g5 : 64 < B
  · rw [checkI_three (by omega)]; exact rcheck_o5 T C B w g0 g1 g2 g3 g4 g5
  obtain ⟨t, rfl⟩ : ∃ t : Nat, T = t := ⟨T.toNat, by omega⟩
  obtain ⟨c, rfl⟩ : ∃ c : Nat, C = c := ⟨C.toNat, by omega⟩
  obtain ⟨b, rfl⟩ : ∃ b : Nat, B = b := ⟨B.toNat, by omega⟩
  exact rcheck_in t c b w ⟨by omega, by omega, by omega, by omega, by omega⟩
/-- The uses of a layout's locations, none if it is invalid. -/
def allI (T C B : Int) : List Pk := if checkI T C B = 0 then allL T.toNat C.toNat B.toNat else []
theorem allI_ok {T C B : Nat} (h : Ok T C B) : allI T C B = allL T C B := by unfold allI; rw [checkI_ok h, if_pos rfl]; simp
theorem allI_no {T C B : Int} (h : checkI T C B ≠ 0) : allI T C B = [] := by unfold allI; rw [if_neg h]
theorem allL_len (T C B : Nat) : (allL T C B).length = startL T C B 7 := by rw [allL, allN_len]; rfl
set_option maxRecDepth 100000 in
set_option maxHeartbeats 800000 in
theorem lall_any (T C B : Int) (w : World) (hg : Gl w) : Calls Tryd.prog 13 #[LV T C B] w fun e w' => ∃ v, e = .returned v ∧ PS w' v (allI T C B) ∧ Below w.heap.size w w' := by
  have A := Lib.hid (At.box (T := T) (C := C) (B := B) hg rfl)
  have HC := Lib.hid (rcheck_any T C B (w.alloc (.cells #[.int .i64 T, .int .i64 C, .int .i64 B] 23)))
  by_cases h : checkI T C B = 0
  · rw [h] at HC
    obtain ⟨t, c, b, rfl, rfl, rfl, hok⟩ := checkI_zero h
    rw [allI_ok hok]
    have HO := Lib.hid hok
    clear h hok
    go_enter Tryd.func13, Tryd.ntmps13
    go_wp2_with fail
    refine HC.out.mono ?_
    rintro e w1 ⟨rfl, hb⟩
    replace A := Lib.hid (A.out.below hb)
    clear hb HC
    obtain ⟨x0, x1, x2⟩ := A.out.x
    go_wp2_with fail
    refine (all_any t c b w1 HO.out.1).mono ?_
    rintro e w2 ⟨v, rfl, ho⟩
    have O := Lib.hid ho
    replace A := Lib.hid (A.out.below ho.b)
    clear ho
    go_wp2_with fail
    go_ret
    exact ⟨_, rfl, O.out.ps, A.out.b⟩
  · rw [allI_no h]
    have hne : (checkI T C B != 0) = true := by simpa using h
    generalize checkI T C B = ch at *
    clear h
    go_enter Tryd.func13, Tryd.ntmps13
    go_wp2_with fail
    refine HC.out.mono ?_
    rintro e w1 ⟨rfl, hb⟩
    replace A := Lib.hid (A.out.below hb)
    clear hb HC
    go_wp2_with fail
    go_ret
    exact ⟨_, rfl, PS.nil _ _ _, A.out.b⟩
theorem allI_len (T C B : Int) : (allI T C B).length ≤ 100000 := by
  by_cases h : checkI T C B = 0
  · obtain ⟨t, c, b, rfl, rfl, rfl, hok⟩ := checkI_zero h
    rw [allI_ok hok, allL_len]; have := hok.2; omega
  · rw [allI_no h]; simp
theorem sizeI_len (T C B : Int) : sizeI T C B = ((allI T C B).length : Int) := by
  unfold sizeI allI
  split
  · rw [allL_len]
  · rfl
end Go.Proofs.YtgndlknlahglcaaDoor
