/- Fair of package sched: the round-robin schedule. -/
import Derived.Test.YtpgcnejofnhhfaaDoorParse
namespace Go.Proofs.YtpgcnejofnhhfaaDoor
open Go.ChangeShapes Go.WideShapes Go.ChangeAt Go.RowKit

theorem own_box {w : World} {B g n size : Nat} {e : TypeId} {xs : List Value} (h : w.ownsRow B e size (.slice (some ⟨g, 0, none⟩) n n) n xs) : Box w g xs.toArray e := by
  obtain ⟨h1, ⟨h2, _⟩ | ⟨g', cap, cur, hv, _, hh, _, _, hs, ht⟩⟩ := h
  · cases h2
  · cases hv
    unfold Box
    rw [hh]
    congr 2
    rw [List.take_of_length_le (by simp [hs])] at ht
    rw [← ht]
def fairP (t : Int) (i : Nat) : Pk := (0, 1 + i % t, 0)
def fairL (t : Int) (n : Nat) : List Pk := (List.range n).map (fairP t)
theorem fairL_len (t : Int) (n : Nat) : (fairL t n).length = n := by simp [fairL]
theorem fairL_at (t : Int) {n i : Nat} (h : i < n) : (fairL t n).getD i zPk = fairP t i := by simp [fairL, List.getD, h]
/-- The block B holds n picks, the first k of them of the round-robin schedule. -/
def FairIn (w : World) (B n : Nat) (t : Int) (k : Nat) (W : World) : Prop :=
  ∃ cs : Array Value, Box W B cs 35 ∧ cs.size = n * 3 ∧ (∀ i, i < k → cs[i * 3]? = some (.int .i64 0) ∧ cs[i * 3 + 1]? = some (.int .i64 (1 + i % t)) ∧ cs[i * 3 + 2]? = some (.int .i64 0)) ∧ Below B w W
set_option maxRecDepth 100000 in
set_option maxHeartbeats 1600000 in
theorem fair_ok (t : Int) (n : Nat) (w : World) (h1 : 1 ≤ t) (h8 : t ≤ 8) (hn : n ≤ 4096) :
    Calls Tryd.prog 25 #[.int .i64 t, .int .i64 n] w fun e w' => ∃ v, e = .returned v ∧ PS w' v (fairL t n) ∧ Below w.heap.size w w' := by
  obtain ⟨i0, hi, hz0, hz1, hz2⟩ := info_parts info35
  have HF := Lib.hid (show fitsL t n = true by unfold fitsL; simp; omega)
  go_enter Tryd.func25, Tryd.ntmps25
  go_wp2_with fail
  refine (fits_any t n _).mono ?_
  rintro e w' ⟨rfl, rfl⟩
  rw [HF.out]
  go_wp2_with (first | (at_make; refine wpList_make_full _ rfl _ _ 23 rfl w.heap.size 35 i0 _ 3 Tryd.underlying23 hi hz0 hz1 _ _ _ _ n rfl rfl (by omega) (by omega) (by rw [hz2]; omega) (by unfold maxLen; omega) (Nat.le_refl _) ?_))
  intro w1 hown hg
  have F0 : FairIn w w.heap.size n t 0 w1 := ⟨_, own_box hown, by rw [List.size_toArray]; exact hown.1, by omega, (Below.refl _ _).grown hg (Nat.le_refl _) (fun j hj => by cases hj)⟩
  have H0 := Lib.hid F0
  clear F0 hown hg
  obtain ⟨B, hB⟩ : ∃ B, w.heap.size = B := ⟨_, rfl⟩
  rw [hB] at H0 ⊢
  go_wp2_with fail
  go_loopw [15] (fun iv wr => ∃ k : Nat, k ≤ n ∧ iv = .int .i64 k ∧ FairIn w B n t k wr) (fun iv _ => n - (intOf iv).toNat)
  case atStart => exact ⟨0, by omega, rfl, H0.out⟩
  case round =>
    obtain ⟨k, hk, rfl, cs, hbx, hcs, hc, hb⟩ := hrel
    have BX := Lib.hid hbx
    have HC := Lib.hid hc
    have BB := Lib.hid hb
    clear hbx hc hb
    by_cases hlt : k < n
    · have m0 : wr.cell? ⟨B, k * 3, none⟩ = some (cs[k * 3]'(by omega)) := (BX.out.cell _).trans (by rw [Array.getElem?_eq_getElem])
      have m1 : wr.cell? ⟨B, k * 3 + 1, none⟩ = some (cs[k * 3 + 1]'(by omega)) := (BX.out.cell _).trans (by rw [Array.getElem?_eq_getElem])
      have m2 : wr.cell? ⟨B, k * 3 + 2, none⟩ = some (cs[k * 3 + 2]'(by omega)) := (BX.out.cell _).trans (by rw [Array.getElem?_eq_getElem])
      have n0 := BX.out.free (k * 3)
      have n1 := BX.out.free (k * 3 + 1)
      have n2 := BX.out.free (k * 3 + 2)
      have q0 : 0 ≤ (k : Int) % t := Int.emod_nonneg _ (by omega)
      have q1 : (k : Int) % t < 8 := by have := Int.emod_lt_of_pos (k : Int) (show 0 < t by omega); omega
      go_wp2_with fail
      go_roundw
      case rel =>
        refine ⟨k + 1, by omega, by go_num, _, ((BX.out.set (k * 3) _).set (k * 3 + 1) _).set (k * 3 + 2) _, by simpa using hcs, fun i hi => ?_, below_set (below_set (below_set BB.out (Nat.le_refl _) _ _) (Nat.le_refl _) _ _) (Nat.le_refl _) _ _⟩
        rcases Nat.lt_or_ge i k with h | h
        · obtain ⟨e0, e1, e2⟩ := HC.out i h
          refine ⟨Eq.trans ?_ e0, Eq.trans ?_ e1, Eq.trans ?_ e2⟩ <;> simp only [Array.getElem?_setIfInBounds, Array.size_setIfInBounds] <;> rw [if_neg (by omega), if_neg (by omega), if_neg (by omega)]
        · obtain rfl : i = k := by omega
          refine ⟨?_, ?_, ?_⟩ <;> simp only [Array.getElem?_setIfInBounds, Array.size_setIfInBounds]
          · rw [if_neg (by omega), if_neg (by omega), if_pos trivial, if_pos (by omega)]
          · rw [if_neg (by omega), if_pos trivial, if_pos (by omega)]
          · rw [if_pos trivial, if_pos (by omega)]
      case measure => simp [intOf]; omega
    · go_wp2_with fail
      go_ret
      obtain rfl : k = n := by omega
      refine ⟨_, rfl, ⟨some ⟨B, 0, none⟩, k, by rw [fairL_len]; rfl, .inr ⟨B, 0, rfl, BX.out.lt, fun i hi => ?_⟩⟩, by rw [hB]; exact BB.out⟩
      rw [fairL_len] at hi
      rw [fairL_at t hi, Nat.zero_add, BX.out.cell, BX.out.cell, BX.out.cell]
      exact HC.out i hi
theorem fair_no (t n : Int) (w : World) (h : fitsL t n = false) :
    Calls Tryd.prog 25 #[.int .i64 t, .int .i64 n] w fun e w' => e = .returned (.slice none 0 0) ∧ w = w' := by
  have HF := Lib.hid h
  clear h
  go_enter Tryd.func25, Tryd.ntmps25
  go_wp2_with fail
  refine (fits_any t n _).mono ?_
  rintro e w' ⟨rfl, rfl⟩
  rw [HF.out]
  go_wp2_with fail
  go_ret
  exact ⟨rfl, rfl⟩
end Go.Proofs.YtpgcnejofnhhfaaDoor
