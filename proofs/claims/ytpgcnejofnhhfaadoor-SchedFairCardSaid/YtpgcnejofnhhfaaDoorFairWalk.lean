/- Statement SchedFair: the walk through the law for every input. -/
import Derived.Test.YtpgcnejofnhhfaaDoorAwake
namespace Go.Proofs.YtpgcnejofnhhfaaDoor.schedFair
open Go.ChangeShapes Go.WideShapes Go.ChangeAt Go.RowKit

theorem fairL_succ (t : Int) (n : Nat) : fairL t (n + 1) = fairL t n ++ [fairP t n] := by simp [fairL, List.range_succ]
theorem fair_count (t j : Int) (h1 : 1 ≤ t) (h8 : t ≤ 8) (hj : 1 ≤ j) (hjt : j ≤ t) (n : Nat) : (countL j (fairL t n) : Int) = ((n : Int) + t - j) / t := by
  have ht : t = 1 ∨ t = 2 ∨ t = 3 ∨ t = 4 ∨ t = 5 ∨ t = 6 ∨ t = 7 ∨ t = 8 := by omega
  induction n with
  | zero =>
    have : countL j (fairL t 0) = 0 := rfl
    rw [this]
    rcases ht with rfl | rfl | rfl | rfl | rfl | rfl | rfl | rfl <;> omega
  | succ n ih =>
    rw [fairL_succ, countL_app]
    have e : countL j [fairP t n] = if 1 + (n : Int) % t = j then 1 else 0 := by simp [countL, fairP]
    rw [e, Int.natCast_add, ih]
    rcases ht with rfl | rfl | rfl | rfl | rfl | rfl | rfl | rfl <;> split <;> omega
theorem fair_count_out (t : Int) (h1 : 1 ≤ t) (n : Nat) : countL (t + 1) (fairL t n) = 0 := by
  induction n with
  | zero => rfl
  | succ n ih =>
    rw [fairL_succ, countL_app, ih]
    have := Int.emod_lt_of_pos (n : Int) (show 0 < t by omega)
    simp [countL, fairP]
    omega
theorem fair_bounds (t j : Int) (h1 : 1 ≤ t) (h8 : t ≤ 8) (hj : 1 ≤ j) (hjt : j ≤ t) (n : Nat) : (n : Int) / t ≤ countL j (fairL t n) ∧ (countL j (fairL t n) : Int) ≤ (n : Int) / t + 1 := by
  rw [fair_count t j h1 h8 hj hjt n]
  have ht : t = 1 ∨ t = 2 ∨ t = 3 ∨ t = 4 ∨ t = 5 ∨ t = 6 ∨ t = 7 ∨ t = 8 := by omega
  rcases ht with rfl | rfl | rfl | rfl | rfl | rfl | rfl | rfl <;> omega
def Good (w : World) (e : Ending) (w' : World) : Prop := e = .returned (.bool true) ∧ Below w.heap.size w w'
set_option maxRecDepth 100000 in
set_option maxHeartbeats 800000 in
theorem walk_no0 (t n : Int) (w : World) (hg : Gl w) (h1 : t < 1) : Calls Tryd.prog 7 #[.int .i64 t, .int .i64 n] w (Good w) := by
  have HN := Lib.hid (fair_no t n w (by unfold fitsL; simp; omega))
  have HA := Lib.hid (awake_any w hg)
  clear hg
  go_enter Tryd.func7, Tryd.ntmps7
  go_wp2_with fail
  refine HN.out.mono ?_
  rintro e w' ⟨rfl, rfl⟩
  go_wp2_with fail
  refine HA.out.mono ?_
  rintro e w' ⟨rfl, hb⟩
  have BB := Lib.hid hb
  clear hb HA HN
  go_wp2_with fail
  go_ret
  exact ⟨rfl, BB.out⟩
set_option maxRecDepth 100000 in
set_option maxHeartbeats 800000 in
theorem walk_no1 (t n : Int) (w : World) (hg : Gl w) (h1 : ¬ t < 1) (h2 : 8 < t) : Calls Tryd.prog 7 #[.int .i64 t, .int .i64 n] w (Good w) := by
  have HN := Lib.hid (fair_no t n w (by unfold fitsL; simp; omega))
  have HA := Lib.hid (awake_any w hg)
  clear hg
  go_enter Tryd.func7, Tryd.ntmps7
  go_wp2_with fail
  refine HN.out.mono ?_
  rintro e w' ⟨rfl, rfl⟩
  go_wp2_with fail
  refine HA.out.mono ?_
  rintro e w' ⟨rfl, hb⟩
  have BB := Lib.hid hb
  clear hb HA HN
  go_wp2_with fail
  go_ret
  exact ⟨rfl, BB.out⟩
set_option maxRecDepth 100000 in
set_option maxHeartbeats 800000 in
theorem walk_no2 (t n : Int) (w : World) (hg : Gl w) (h1 : ¬ t < 1) (h2 : ¬ 8 < t) (h3 : n < 0) : Calls Tryd.prog 7 #[.int .i64 t, .int .i64 n] w (Good w) := by
  have HN := Lib.hid (fair_no t n w (by unfold fitsL; simp; omega))
  have HA := Lib.hid (awake_any w hg)
  clear hg
  go_enter Tryd.func7, Tryd.ntmps7
  go_wp2_with fail
  refine HN.out.mono ?_
  rintro e w' ⟨rfl, rfl⟩
  go_wp2_with fail
  refine HA.out.mono ?_
  rintro e w' ⟨rfl, hb⟩
  have BB := Lib.hid hb
  clear hb HA HN
  go_wp2_with fail
  go_ret
  exact ⟨rfl, BB.out⟩
set_option maxRecDepth 100000 in
set_option maxHeartbeats 800000 in
theorem walk_no3 (t n : Int) (w : World) (hg : Gl w) (h1 : ¬ t < 1) (h2 : ¬ 8 < t) (h3 : ¬ n < 0) (h4 : 4096 < n) : Calls Tryd.prog 7 #[.int .i64 t, .int .i64 n] w (Good w) := by
  have HN := Lib.hid (fair_no t n w (by unfold fitsL; simp; omega))
  have HA := Lib.hid (awake_any w hg)
  clear hg
  go_enter Tryd.func7, Tryd.ntmps7
  go_wp2_with fail
  refine HN.out.mono ?_
  rintro e w' ⟨rfl, rfl⟩
  go_wp2_with fail
  refine HA.out.mono ?_
  rintro e w' ⟨rfl, hb⟩
  have BB := Lib.hid hb
  clear hb HA HN
  go_wp2_with fail
  go_ret
  exact ⟨rfl, BB.out⟩
set_option maxRecDepth 100000 in
set_option maxHeartbeats 1600000 in
theorem walk_ok (t : Int) (n : Nat) (w : World) (hg : Gl w) (h1 : ¬ t < 1) (h2 : ¬ 8 < t) (h4 : n ≤ 4096) : Calls Tryd.prog 7 #[.int .i64 t, .int .i64 n] w (Good w) := by
  have HG := Lib.hid hg
  have HF := Lib.hid (fair_ok t n w (by omega) (by omega) h4)
  have h3 : ¬ (n : Int) < 0 := by omega
  have h5 : ¬ (4096 : Int) < n := by omega
  have qN := neqP
  have gP := guardP
  clear hg
  go_enter Tryd.func7, Tryd.ntmps7
  go_wp2_with fail
  refine HF.out.mono ?_
  rintro e w1 ⟨v, rfl, hps, hb⟩
  have BB := Lib.hid hb
  have PP := Lib.hid hps
  obtain ⟨a, cap, hv, hps⟩ := hps
  subst hv
  have HH := Lib.hid hps
  rw [fairL_len] at PP ⊢
  clear hps hb HF
  have hnn : ((n : Int) != n) = false := by simp
  go_wp2_with fail
  go_loopw [39] (fun iv wr => ∃ k : Nat, k ≤ n ∧ iv = .int .i64 k ∧ Below w1.heap.size w1 wr) (fun iv _ => n - (intOf iv).toNat)
  case atStart => exact ⟨0, by omega, rfl, Below.refl _ _⟩
  case round =>
    obtain ⟨k, hk, rfl, hb⟩ := hrel
    have B1 := Lib.hid hb
    clear hb
    by_cases hlt : k < n
    · rcases HH.out with h | ⟨b, off, rfl, hbl, hc⟩
      · have := fairL_len t n; rw [h] at this; simp at this; omega
      obtain ⟨c0, c1, c2⟩ := hc k (by rw [fairL_len]; exact hlt)
      rw [fairL_at t hlt] at c0 c1 c2
      rw [← B1.out.cell hbl] at c0 c1 c2
      simp only [fairP] at c0 c1 c2
      clear hc
      have q0 : 0 ≤ (k : Int) % t := Int.emod_nonneg _ (by omega)
      have q1 : (k : Int) % t < 8 := by have := Int.emod_lt_of_pos (k : Int) (show 0 < t by omega); omega
      have he : eqP (0, 1 + (k : Int) % t, 0) (0, (k : Int) % t + 1, 0) = true := (eqP_iff _ _).2 (by rw [Int.add_comm])
      go_wp2_with fail
      go_quiet (fail)
      go_wp2_with fail
      go_roundw
      case rel => exact ⟨k + 1, by omega, by go_num, below_drewN (B1.out.alloc B1.out.size _) _⟩
      case measure => simp [intOf]; omega
    · replace BB := Lib.hid (BB.out.trans (B1.out.mono BB.out.size))
      replace PP := Lib.hid (PP.out.below B1.out)
      go_wp2_with fail
      clear B1 HH hlt hk
      go_loopw [8] (fun tv wq => ∃ j : Int, 1 ≤ j ∧ j ≤ t + 1 ∧ tv = .int .i64 j ∧ PS wq (.slice a n cap) (fairL t n) ∧ Below w.heap.size w wq) (fun tv _ => (t + 1 - intOf tv).toNat)
      case atStart => exact ⟨1, by omega, by omega, rfl, PP.out, BB.out⟩
      case round =>
        obtain ⟨j, hj1, hj2, rfl, hps, hb⟩ := hrel
        have PQ := Lib.hid hps
        have BQ := Lib.hid hb
        clear hps hb
        by_cases hjt : j ≤ t
        · have hbd := fair_bounds t j (by omega) (by omega) hj1 hjt n
          obtain ⟨q1, q2⟩ := hbd
          have q3 : (0 : Int) ≤ (n : Int) / t := Int.ediv_nonneg (by omega) (by omega)
          have q4 : (n : Int) / t ≤ n := Int.ediv_le_self _ (by omega)
          have q5 : ¬ (countL j (fairL t n) : Int) < (n : Int) / t := by omega
          have q6 : ¬ (n : Int) / t + 1 < (countL j (fairL t n) : Int) := by omega
          go_wp2_with fail
          refine (count_any j _ (fairL t n) _ (by rw [fairL_len]; omega) PQ.out).mono ?_
          rintro e w2 ⟨rfl, hb⟩
          have P2 := Lib.hid (PQ.out.below hb)
          have B2 := Lib.hid (BQ.out.trans (hb.mono BQ.out.size))
          clear hb
          go_wp2_with fail
          go_roundw
          case rel => exact ⟨j + 1, by omega, by omega, by go_num, P2.out, B2.out⟩
          case measure => simp [intOf]; omega
        · obtain rfl : j = t + 1 := by omega
          go_wp2_with fail
          refine (count_any (t + 1) _ (fairL t n) _ (by rw [fairL_len]; omega) PQ.out).mono ?_
          rintro e w2 ⟨rfl, hb⟩
          rw [fair_count_out t (by omega) n]
          have B2 := Lib.hid (BQ.out.trans (hb.mono BQ.out.size))
          clear hb
          go_wp2_with fail
          refine (awake_any _ (HG.out.belowN B2.out HG.out.big)).mono ?_
          rintro e w3 ⟨rfl, hb⟩
          have B3 := Lib.hid (B2.out.trans (hb.mono B2.out.size))
          clear hb
          go_wp2_with fail
          go_ret
          exact ⟨rfl, B3.out⟩
theorem walk (t n : Int) (w : World) (hg : Gl w) : Calls Tryd.prog 7 #[.int .i64 t, .int .i64 n] w (Good w) := by
  by_cases h1 : t < 1
  · exact walk_no0 t n w hg h1
  by_cases h2 : 8 < t
  · exact walk_no1 t n w hg h1 h2
  by_cases h3 : n < 0
  · exact walk_no2 t n w hg h1 h2 h3
  by_cases h4 : 4096 < n
  · exact walk_no3 t n w hg h1 h2 h3 h4
  obtain ⟨m, rfl⟩ : ∃ m : Nat, n = m := ⟨n.toNat, by omega⟩
  exact walk_ok t m w hg h1 h2 (by omega)
end Go.Proofs.YtpgcnejofnhhfaaDoor.schedFair
