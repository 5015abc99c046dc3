/- The regions of a layout: their units, and where each of them starts. -/
import Derived.Test.YtfegeahieajmkaaDoorLayPlain
import Derived.WalkKit
import Derived.WalkSpells
import Derived.WalkLawsBesides
import Derived.ProofKit
import Derived.OpenShut
import Derived.Lib.Hide
import Derived.IntWalk
import Derived.Deep.LoopGhost
import Derived.Deep.RegionHeld3
import Derived.Deep.QuietTactic
import Derived.BigQuiet
namespace Go.Proofs.YtfegeahieajmkaaDoor.Lay
open Go.ChangeShapes Go.WideShapes Go.ChangeAt Go.RowKit

theorem below1 (w : World) (o : Obj) : Below w.heap.size w (w.alloc o) := (Below.refl _ _).alloc (Nat.le_refl _) o
theorem below_drewN {B : Nat} {a w : World} (h : Below B a w) (n : Nat) : Below B a (w.drewN n) := ⟨h.os, h.tape, h.output, h.size, h.block⟩
/-- A layout as a value. -/
abbrev LV (T C B : Int) : Value := .agg #[.int .i64 T, .int .i64 C, .int .i64 B]
/-- What the package-level variable holds that the layouts' code reads. -/
structure Gl (w : World) : Prop where
  z : ∀ r, r < 7 → w.cell? ⟨0, r, none⟩ = some (.int .i64 (unitZ r))
  big : 0 < w.heap.size
theorem Gl.below {w w1 : World} (h : Gl w) (hb : Below w.heap.size w w1) : Gl w1 := ⟨fun r hr => (hb.cell (by simpa using h.big)).trans (h.z r hr), Nat.lt_of_lt_of_le h.big hb.size⟩
theorem Gl.belowN {w w1 : World} {n : Nat} (h : Gl w) (hb : Below n w w1) (hn : 0 < n) : Gl w1 := ⟨fun r hr => (hb.cell (by simpa using hn)).trans (h.z r hr), Nat.lt_of_lt_of_le h.big hb.size⟩
theorem div8 (n : Nat) (h : n ≤ 5000) : IntKind.i64.wrap ((n : Int).tdiv 8) = ((n / 8 : Nat) : Int) := by
  rw [Int.tdiv_eq_ediv_of_nonneg (by omega)]
  exact IntWalk.i64_in _ (by omega)
def unitsV (T C B : Nat) : Value := .agg #[.int .i64 1, .int .i64 T, .int .i64 T, .int .i64 ((C + 7) / 8 : Nat), .int .i64 T, .int .i64 (min B 1 : Nat), .int .i64 B]
set_option maxRecDepth 100000 in
theorem units_any (T C B : Nat) (w : World) (hi : In T C B) : Calls Tryd.prog 57 #[LV T C B] w fun e w' => e = .returned (unitsV T C B) ∧ Below w.heap.size w w' := by
  obtain ⟨h1, h2, h3, h4, h5⟩ := hi
  have e1 : ((C : Int) + 7) / 8 = ((C : Int) + 8 - 1) / 8 := by omega
  unfold LV unitsV
  by_cases h : (1 : Int) < B
  · have e2 : (min B 1 : Nat) = 1 := by omega
    rw [e2]
    go_enter Tryd.func57, Tryd.ntmps57
    go_wp2
    refine bodyPost_ret (v := .agg #[.int .i64 1, .int .i64 T, .int .i64 T, .int .i64 (((C : Int) + 8 - 1) / 8), .int .i64 T, .int .i64 1, .int .i64 B]) (by simp [results, Tryd.results57, go_sem]) rfl ?_
    refine ⟨?_, ((Below.refl _ _).alloc (Nat.le_refl _) _).alloc (by simp) _⟩
    simp [e1]
  · have e2 : (min B 1 : Nat) = B := by omega
    rw [e2]
    go_enter Tryd.func57, Tryd.ntmps57
    go_wp2
    refine bodyPost_ret (v := .agg #[.int .i64 1, .int .i64 T, .int .i64 T, .int .i64 (((C : Int) + 8 - 1) / 8), .int .i64 T, .int .i64 B, .int .i64 B]) (by simp [results, Tryd.results57, go_sem]) rfl ?_
    refine ⟨?_, ((Below.refl _ _).alloc (Nat.le_refl _) _).alloc (by simp) _⟩
    simp
theorem startL_le (T C B : Nat) (hi : In T C B) (r : Nat) (hr : r ≤ 7) : startL T C B r ≤ 5200 := by
  obtain ⟨h1, h2, h3, h4, h5⟩ := hi
  have := starts T C B
  rcases (show r = 0 ∨ r = 1 ∨ r = 2 ∨ r = 3 ∨ r = 4 ∨ r = 5 ∨ r = 6 ∨ r = 7 by omega) with rfl | rfl | rfl | rfl | rfl | rfl | rfl | rfl
  · simp [startL]
  all_goals omega
theorem unitsL_le (T C B : Nat) (hi : In T C B) (r : Nat) : unitsL T C B r ≤ 300 := by
  obtain ⟨h1, h2, h3, h4, h5⟩ := hi
  unfold unitsL
  repeat' split
  all_goals omega
theorem unitZ_le (r : Nat) : unitZ r ≤ 104 := by
  unfold unitZ
  repeat' split
  all_goals omega
theorem units_cell (T C B : Nat) (w : World) {k n : Nat} (hn : n = w.heap.size) (hk : k < 7) : (w.alloc (.cells #[.int .i64 1, .int .i64 T, .int .i64 T, .int .i64 ((C + 7) / 8 : Nat), .int .i64 T, .int .i64 (min B 1 : Nat), .int .i64 B] 102)).cell? ⟨n, k, none⟩ = some (.int .i64 (unitsL T C B k)) := by
  subst hn
  rcases (show k = 0 ∨ k = 1 ∨ k = 2 ∨ k = 3 ∨ k = 4 ∨ k = 5 ∨ k = 6 by omega) with rfl | rfl | rfl | rfl | rfl | rfl | rfl <;> simp [go_sem, unitsL]
set_option maxRecDepth 100000 in
set_option maxHeartbeats 800000 in
theorem start_any (T C B r : Nat) (w : World) (hi : In T C B) (hr : r ≤ 7) (hg : Gl w) : Calls Tryd.prog 50 #[LV T C B, .int .i64 r] w fun e w' => e = .returned (.int .i64 (startL T C B r)) ∧ Below w.heap.size w w' := by
  have HI := Lib.hid hi
  have HG := Lib.hid hg
  have HU := Lib.hid (units_any T C B (w.alloc (.cells #[.int .i64 T, .int .i64 C, .int .i64 B] 29)) hi)
  clear hg hi
  unfold LV unitsV at HU
  unfold LV
  go_enter Tryd.func50, Tryd.ntmps50
  go_wp2_with fail
  refine HU.out.mono ?_
  rintro e w1 ⟨rfl, hb⟩
  have B1 := Lib.hid ((below1 w _).trans (hb.mono (by simp)))
  clear hb HU
  go_wp2_with fail
  obtain ⟨n1, hn1⟩ : ∃ n, w1.heap.size = n := ⟨_, rfl⟩
  obtain ⟨W, hW⟩ : ∃ W, w1.alloc (.cells #[.int .i64 1, .int .i64 T, .int .i64 T, .int .i64 (((C : Int) + 7) / 8), .int .i64 T, .int .i64 (min B 1 : Nat), .int .i64 B] 102) = W := ⟨_, rfl⟩
  have CB : Hid (∀ k, k < 7 → W.cell? ⟨n1, k, none⟩ = some (.int .i64 (unitsL T C B k))) := Lib.hid (fun k hk => by rw [← hW]; have := units_cell T C B w1 hn1.symm hk; simpa using this)
  have B2 : Hid (Below w.heap.size w W) := Lib.hid (by rw [← hW]; exact B1.out.alloc B1.out.size _)
  have G2 := Lib.hid (HG.out.below B2.out)
  have LT : Hid (n1 < W.heap.size) := Lib.hid (by rw [← hW, ← hn1]; simp)
  rw [hW, hn1]
  clear hW hn1 B1 HG
  go_loopw [6, 11] (fun cv iv wr => ∃ k : Nat, k ≤ r ∧ iv = .int .i64 k ∧ cv = .int .i64 (startL T C B k) ∧ Below W.heap.size W wr) (fun _ iv _ => r - (intOf iv).toNat)
  case atStart => exact ⟨0, by omega, rfl, rfl, Below.refl _ _⟩
  case round =>
    obtain ⟨k, hk, rfl, rfl, hb⟩ := hrel
    have BB := Lib.hid hb
    clear hb
    by_cases hlt : k < r
    · have c0 := (BB.out.cell (p := ⟨n1, k, none⟩) LT.out).trans (CB.out k (by omega))
      have c1 := (G2.out.below BB.out).z k (by omega)
      have hs := startL_le T C B HI.out k (by omega)
      have hu := unitsL_le T C B HI.out k
      have hz := unitZ_le k
      have hm : unitsL T C B k * unitZ k ≤ 300 * 104 := Nat.mul_le_mul hu hz
      have HM := Lib.hid (show startL T C B (k + 1) = startL T C B k + unitsL T C B k * unitZ k from rfl)
      generalize startL T C B k = sk at *
      generalize unitsL T C B k = uk at *
      generalize unitZ k = zk at *
      have hm2 : ((uk * zk : Nat) : Int) = (uk : Int) * zk := by simp
      have hm3 : (uk : Int) * zk ≤ 31200 := by omega
      have hm4 : 0 ≤ (uk : Int) * zk := by omega
      go_wp2_with fail
      go_quiet (fail)
      go_wp2_with fail
      go_roundw
      case rel => exact ⟨k + 1, by omega, by go_num, by rw [HM.out]; simp, below_drewN BB.out _⟩
      case measure => simp [intOf]; omega
    · go_wp2_with fail
      go_ret
      obtain rfl : k = r := by omega
      exact ⟨rfl, B2.out.trans (BB.out.mono B2.out.size)⟩
end Go.Proofs.YtfegeahieajmkaaDoor.Lay
