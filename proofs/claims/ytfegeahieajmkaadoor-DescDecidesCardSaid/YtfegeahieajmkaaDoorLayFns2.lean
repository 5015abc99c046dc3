/- Cell, Bits, Place and May of a layout, at all numbers. -/
import Derived.Test.YtfegeahieajmkaaDoorLayFns
namespace Go.Proofs.YtfegeahieajmkaaDoor.Lay
open Go.ChangeShapes Go.WideShapes Go.ChangeAt Go.RowKit

/-- The location of a cell, or -1. -/
def cellI (T C B i : Int) : Int := if checkI T C B = 0 ∧ 0 ≤ i ∧ i < C then (startL T.toNat C.toNat B.toNat 3 : Int) + i else -1
theorem cellI_ok {T C B : Nat} (h : Ok T C B) (i : Int) : cellI T C B i = if 0 ≤ i ∧ i < (C : Int) then (startL T C B 3 : Int) + i else -1 := by
  unfold cellI
  simp [checkI_ok h]
theorem cellI_no {T C B : Int} (h : checkI T C B ≠ 0) (i : Int) : cellI T C B i = -1 := by
  unfold cellI
  rw [if_neg (fun x => h x.1)]
theorem start_lit {T C B : Nat} (hok : In T C B) (k : Nat) (hk : k ≤ 7) (n : Int) (hn : n = k) (W : World) (hW : Gl W) : Calls Tryd.prog 50 #[LV T C B, .int .i64 n] W fun e w' => e = .returned (.int .i64 (startL T C B k)) ∧ Below W.heap.size W w' := by
  subst hn; exact start_any T C B k W hok hk hW
set_option maxRecDepth 100000 in
set_option maxHeartbeats 800000 in
theorem cell_any (T C B i : Int) (w : World) (hg : Gl w) : Calls Tryd.prog 36 #[LV T C B, .int .i64 i] w fun e w' => e = .returned (.int .i64 (cellI T C B i)) ∧ Below w.heap.size w w' := by
  have A := Lib.hid (At.box (T := T) (C := C) (B := B) hg rfl)
  have HC := Lib.hid (check_any T C B _ A.out.g)
  clear hg
  by_cases h : checkI T C B = 0
  · rw [h] at HC
    obtain ⟨t, c, b, rfl, rfl, rfl, hok⟩ := checkI_zero h
    rw [cellI_ok hok]
    have hs := startL_le t c b hok.1 3 (by omega)
    obtain ⟨q1, q2, q3, q4, q5⟩ := hok.1
    have HO := Lib.hid hok
    clear h hok
    by_cases h0 : i < 0
    · rw [if_neg (by omega)]
      go_enter Tryd.func36, Tryd.ntmps36
      go_wp2_with fail
      refine HC.out.mono ?_
      rintro e w1 ⟨rfl, hb⟩
      replace A := Lib.hid (A.out.below hb)
      clear hb HC
      go_wp2_with fail
      go_ret
      exact ⟨rfl, A.out.b⟩
    by_cases h1 : i < (c : Int)
    · have h1' : ¬ (c : Int) ≤ i := by omega
      rw [if_pos ⟨by omega, h1⟩]
      have HS : Hid (∀ W, Gl W → Calls Tryd.prog 50 #[LV t c b, .int .i64 3] W fun e w' => e = .returned (.int .i64 (startL t c b 3)) ∧ Below W.heap.size W w') := Lib.hid (fun W hW => start_lit HO.out.1 3 (by omega) 3 rfl W hW)
      generalize startL t c b 3 = s3 at *
      go_enter Tryd.func36, Tryd.ntmps36
      go_wp2_with fail
      refine HC.out.mono ?_
      rintro e w1 ⟨rfl, hb⟩
      replace A := Lib.hid (A.out.below hb)
      clear hb HC
      obtain ⟨x0, x1, x2⟩ := A.out.x
      go_wp2_with fail
      refine (HS.out _ A.out.g).mono ?_
      rintro e w2 ⟨rfl, hb⟩
      replace A := Lib.hid (A.out.below hb)
      clear hb HS x0 x1 x2
      go_wp2_with fail
      go_ret
      exact ⟨rfl, A.out.b⟩
    · have h1' : (c : Int) ≤ i := by omega
      rw [if_neg (fun x => h1 x.2)]
      go_enter Tryd.func36, Tryd.ntmps36
      go_wp2_with fail
      refine HC.out.mono ?_
      rintro e w1 ⟨rfl, hb⟩
      replace A := Lib.hid (A.out.below hb)
      clear hb HC
      obtain ⟨x0, x1, x2⟩ := A.out.x
      go_wp2_with fail
      go_ret
      exact ⟨rfl, A.out.b⟩
  · rw [cellI_no h]
    have hne : (checkI T C B != 0) = true := by simpa using h
    generalize checkI T C B = ch at *
    clear h
    go_enter Tryd.func36, Tryd.ntmps36
    go_wp2_with fail
    refine HC.out.mono ?_
    rintro e w1 ⟨rfl, hb⟩
    replace A := Lib.hid (A.out.below hb)
    clear hb HC
    go_wp2_with fail
    go_ret
    exact ⟨rfl, A.out.b⟩
/-- The location of a block's bitmap word and the bit's value, or -1 and 0. -/
def bitsI (T C B i : Int) : Int × Int := if unitI T C B 6 i < 0 then (-1, 0) else ((startL T.toNat C.toNat B.toNat 5 : Int) + i / 32, 2 ^ (i.toNat % 32))
theorem unitI_nonneg {T C B : Int} {r : Nat} {i : Int} (h : ¬ unitI T C B r i < 0) : ∃ t c b m : Nat, T = t ∧ C = c ∧ B = b ∧ i = m ∧ Ok t c b ∧ m < unitsL t c b r := by
  by_cases hc : checkI T C B = 0
  · obtain ⟨t, c, b, rfl, rfl, rfl, hok⟩ := checkI_zero hc
    rw [unitI_ok hok] at h
    by_cases hn : 0 ≤ i ∧ i < (unitsL t c b r : Int)
    · exact ⟨t, c, b, i.toNat, rfl, rfl, rfl, by omega, hok, by omega⟩
    · rw [if_neg hn] at h; omega
  · rw [unitI_no hc] at h; omega
theorem pow_wrap : ∀ k, k < 32 → IntKind.i64.wrap (2 ^ k) = 2 ^ k := by decide +kernel
theorem shl_run (m : Nat) (w : World) : (Op.shift .shl .i64 1 .i64 ((m : Int).tmod 32)).run Tryd.prog w = .ok (.int .i64 (2 ^ (m % 32))) w := by
  have e : (m : Int).tmod 32 = ((m % 32 : Nat) : Int) := by rw [Int.tmod_eq_emod_of_nonneg (by omega)]; simp
  have hp := pow_wrap (m % 32) (by omega)
  rw [e]
  simp [go_sem]
  rw [show ((m : Int) % 32).toNat = m % 32 by omega]
  exact hp
/-- Where an owner keeps its descriptor, and for how many entries, or -1 and 0. -/
def placeAt (T C B who : Int) : Int := if 8 < who then unitI T C B 6 (who - 9) else threadI T C B 4 who
def placeI (T C B who : Int) : Int × Int := if placeAt T C B who < 0 then (-1, 0) else (placeAt T C B who, if 8 < who then 10 else 32)
set_option maxRecDepth 100000 in
set_option maxHeartbeats 800000 in
theorem place_any (T C B who : Int) (w : World) (hg : Gl w) (hw : who < 9223372036854775808) : Calls Tryd.prog 33 #[LV T C B, .int .i64 who] w fun e w' => e = .returned (.tuple #[.int .i64 (placeI T C B who).1, .int .i64 (placeI T C B who).2]) ∧ Below w.heap.size w w' := by
  have A := Lib.hid (At.box (T := T) (C := C) (B := B) hg rfl)
  have HB := Lib.hid (fun W hW => slot_any T C B who W hW hw)
  have HC := Lib.hid (fun W hW => block_any T C B (who - 9) W hW)
  have hq : who - 8 - 1 = who - 9 := by omega
  clear hg
  unfold placeI placeAt
  by_cases h : 8 < who
  · rw [if_pos h, if_pos h]
    by_cases hx : unitI T C B 6 (who - 9) < 0
    · rw [if_pos hx]
      generalize unitI T C B 6 (who - 9) = x at *
      go_enter Tryd.func33, Tryd.ntmps33
      go_wp2_with fail
      refine (HB.out _ A.out.g).mono ?_
      rintro e w1 ⟨rfl, hb⟩
      replace A := Lib.hid (A.out.below hb)
      clear hb HB
      obtain ⟨x0, x1, x2⟩ := A.out.x
      go_wp2_with fail
      refine (HC.out _ A.out.g).mono ?_
      rintro e w2 ⟨rfl, hb⟩
      replace A := Lib.hid (A.out.below hb)
      clear hb HC x0 x1 x2
      go_wp2_with fail
      go_ret2
      exact ⟨rfl, A.out.b⟩
    · rw [if_neg hx]
      generalize unitI T C B 6 (who - 9) = x at *
      go_enter Tryd.func33, Tryd.ntmps33
      go_wp2_with fail
      refine (HB.out _ A.out.g).mono ?_
      rintro e w1 ⟨rfl, hb⟩
      replace A := Lib.hid (A.out.below hb)
      clear hb HB
      obtain ⟨x0, x1, x2⟩ := A.out.x
      go_wp2_with fail
      refine (HC.out _ A.out.g).mono ?_
      rintro e w2 ⟨rfl, hb⟩
      replace A := Lib.hid (A.out.below hb)
      clear hb HC x0 x1 x2
      go_wp2_with fail
      go_ret2
      exact ⟨rfl, A.out.b⟩
  · rw [if_neg h, if_neg h]
    clear hq
    by_cases hx : threadI T C B 4 who < 0
    · rw [if_pos hx]
      generalize threadI T C B 4 who = x at *
      go_enter Tryd.func33, Tryd.ntmps33
      go_wp2_with fail
      refine (HB.out _ A.out.g).mono ?_
      rintro e w1 ⟨rfl, hb⟩
      replace A := Lib.hid (A.out.below hb)
      clear hb HB
      go_wp2_with fail
      go_ret2
      exact ⟨rfl, A.out.b⟩
    · rw [if_neg hx]
      generalize threadI T C B 4 who = x at *
      go_enter Tryd.func33, Tryd.ntmps33
      go_wp2_with fail
      refine (HB.out _ A.out.g).mono ?_
      rintro e w1 ⟨rfl, hb⟩
      replace A := Lib.hid (A.out.below hb)
      clear hb HB
      go_wp2_with fail
      go_ret2
      exact ⟨rfl, A.out.b⟩
/-- Whether a multi-word swap may access a location. -/
def mayI (T C B x : Int) : Bool := decide (checkI T C B = 0) && (if (startL T.toNat C.toNat B.toNat 3 : Int) ≤ x then decide (x < (startL T.toNat C.toNat B.toNat 3 : Int) + C) else decide ((startL T.toNat C.toNat B.toNat 2 : Int) ≤ x) && decide ((x - (startL T.toNat C.toNat B.toNat 2 : Int)) % 8 < 3))
theorem mayI_ok {T C B : Nat} (h : Ok T C B) (x : Int) : mayI T C B x = if (startL T C B 3 : Int) ≤ x then decide (x < (startL T C B 3 : Int) + C) else decide ((startL T C B 2 : Int) ≤ x) && decide ((x - (startL T C B 2 : Int)) % 8 < 3) := by
  unfold mayI
  simp [checkI_ok h]
set_option maxRecDepth 100000 in
set_option maxHeartbeats 1600000 in
theorem may_any (T C B x : Int) (w : World) (hg : Gl w) : Calls Tryd.prog 41 #[LV T C B, .int .i64 x] w fun e w' => e = .returned (.bool (mayI T C B x)) ∧ Below w.heap.size w w' := by
  have A := Lib.hid (At.box (T := T) (C := C) (B := B) hg rfl)
  have HC := Lib.hid (check_any T C B _ A.out.g)
  clear hg
  by_cases h : checkI T C B = 0
  · rw [h] at HC
    obtain ⟨t, c, b, rfl, rfl, rfl, hok⟩ := checkI_zero h
    rw [mayI_ok hok]
    have hs := startL_le t c b hok.1 3 (by omega)
    have hs2 := startL_le t c b hok.1 2 (by omega)
    obtain ⟨q1, q2, q3, q4, q5⟩ := hok.1
    have HS : Hid (∀ W, Gl W → Calls Tryd.prog 50 #[LV t c b, .int .i64 3] W fun e w' => e = .returned (.int .i64 (startL t c b 3)) ∧ Below W.heap.size W w') := Lib.hid (fun W hW => start_lit hok.1 3 (by omega) 3 rfl W hW)
    have HT : Hid (∀ W, Gl W → Calls Tryd.prog 50 #[LV t c b, .int .i64 2] W fun e w' => e = .returned (.int .i64 (startL t c b 2)) ∧ Below W.heap.size W w') := Lib.hid (fun W hW => start_lit hok.1 2 (by omega) 2 rfl W hW)
    clear h hok
    generalize startL t c b 3 = s3 at *
    generalize startL t c b 2 = s2 at *
    by_cases h3 : (s3 : Int) ≤ x
    · rw [if_pos h3]
      go_enter Tryd.func41, Tryd.ntmps41
      go_wp2_with fail
      refine HC.out.mono ?_
      rintro e w1 ⟨rfl, hb⟩
      replace A := Lib.hid (A.out.below hb)
      clear hb HC
      obtain ⟨x0, x1, x2⟩ := A.out.x
      go_wp2_with fail
      have i1 : At t c b w.heap.size w w1.drew := A.out.below (Below.refl _ _).drew
      clear A
      go_region_law (first
        | (go_simp; go_at_call 50; (with_reducible refine (HT.out _ i1.g).mono ?_); rintro e w5 ⟨rfl, hb5⟩; have i2 := i1.below hb5; clear hb5 i1; have i1 := i2; clear i2; obtain ⟨z0, z1, z2⟩ := i1.x)
        | (go_simp; go_at_call 50; (with_reducible refine (HS.out _ i1.g).mono ?_); rintro e w5 ⟨rfl, hb5⟩; have i2 := i1.below hb5; clear hb5 i1; have i1 := i2; clear i2; obtain ⟨z0, z1, z2⟩ := i1.x))
      all_goals (
        go_wp2_with fail
        go_ret
        exact ⟨rfl, i1.b⟩)
    by_cases h2 : (s2 : Int) ≤ x
    · rw [if_neg h3, show decide ((s2 : Int) ≤ x) = true from decide_eq_true h2, Bool.true_and]
      have hw1 : IntKind.i64.wrap (x - s2) = x - s2 := IntWalk.i64_in _ (by omega)
      have hw2 : (x - s2).tmod 8 = (x - s2) % 8 := Int.tmod_eq_emod_of_nonneg (by omega)
      go_enter Tryd.func41, Tryd.ntmps41
      go_wp2_with fail
      refine HC.out.mono ?_
      rintro e w1 ⟨rfl, hb⟩
      replace A := Lib.hid (A.out.below hb)
      clear hb HC
      obtain ⟨x0, x1, x2⟩ := A.out.x
      go_wp2_with fail
      have i1 : At t c b w.heap.size w w1.drew := A.out.below (Below.refl _ _).drew
      clear A
      go_region_law (first
        | (go_simp; go_at_call 50; (with_reducible refine (HT.out _ i1.g).mono ?_); rintro e w5 ⟨rfl, hb5⟩; have i2 := i1.below hb5; clear hb5 i1; have i1 := i2; clear i2; obtain ⟨z0, z1, z2⟩ := i1.x)
        | (go_simp; go_at_call 50; (with_reducible refine (HS.out _ i1.g).mono ?_); rintro e w5 ⟨rfl, hb5⟩; have i2 := i1.below hb5; clear hb5 i1; have i1 := i2; clear i2; obtain ⟨z0, z1, z2⟩ := i1.x))
      all_goals (
        go_wp2_with fail
        go_ret
        exact ⟨rfl, i1.b⟩)
    · rw [if_neg h3, show decide ((s2 : Int) ≤ x) = false from decide_eq_false h2, Bool.false_and]
      go_enter Tryd.func41, Tryd.ntmps41
      go_wp2_with fail
      refine HC.out.mono ?_
      rintro e w1 ⟨rfl, hb⟩
      replace A := Lib.hid (A.out.below hb)
      clear hb HC
      obtain ⟨x0, x1, x2⟩ := A.out.x
      go_wp2_with fail
      have i1 : At t c b w.heap.size w w1.drew := A.out.below (Below.refl _ _).drew
      clear A
      go_region_law (first
        | (go_simp; go_at_call 50; (with_reducible refine (HT.out _ i1.g).mono ?_); rintro e w5 ⟨rfl, hb5⟩; have i2 := i1.below hb5; clear hb5 i1; have i1 := i2; clear i2; obtain ⟨z0, z1, z2⟩ := i1.x)
        | (go_simp; go_at_call 50; (with_reducible refine (HS.out _ i1.g).mono ?_); rintro e w5 ⟨rfl, hb5⟩; have i2 := i1.below hb5; clear hb5 i1; have i1 := i2; clear i2; obtain ⟨z0, z1, z2⟩ := i1.x))
      all_goals (
        go_wp2_with fail
        go_ret
        exact ⟨rfl, i1.b⟩)
  · rw [show mayI T C B x = false by unfold mayI; simp [h]]
    have hne : (checkI T C B != 0) = true := by simpa using h
    generalize checkI T C B = ch at *
    clear h
    go_enter Tryd.func41, Tryd.ntmps41
    go_wp2_with fail
    refine HC.out.mono ?_
    rintro e w1 ⟨rfl, hb⟩
    replace A := Lib.hid (A.out.below hb)
    clear hb HC
    go_wp2_with fail
    go_ret
    exact ⟨rfl, A.out.b⟩
end Go.Proofs.YtfegeahieajmkaaDoor.Lay
