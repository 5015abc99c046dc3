/- The small functions of package sched: which numbers a pick has, what is wrong with it, the keywords, canonical numbers and their values. -/
import Derived.Test.YtpgcnejofnhhfaaDoorAlike
import Derived.Test.YtpgcnejofnhhfaaDoorShelf
namespace Go.Proofs.YtpgcnejofnhhfaaDoor
open Go.ChangeShapes Go.WideShapes Go.ChangeAt Go.RowKit

theorem hasThread_any (k : Int) (w : World) : Calls Tryd.prog 40 #[.int .i64 k] w fun e w' => e = .returned (.bool (k != 2)) ∧ w = w' := by
  go_enter Tryd.func40, Tryd.ntmps40
  go_wp2
  go_ret
  exact ⟨rfl, rfl⟩
theorem hasChoice_any (k : Int) (w : World) : Calls Tryd.prog 42 #[.int .i64 k] w fun e w' => e = .returned (.bool (k != 1)) ∧ w = w' := by
  go_enter Tryd.func42, Tryd.ntmps42
  go_wp2
  go_ret
  exact ⟨rfl, rfl⟩
def manyL (k : Int) : Int := if k = 0 then 2 else 1
theorem many_any (k : Int) (w : World) (hk : k = 0 ∨ k = 1 ∨ k = 2) : Calls Tryd.prog 38 #[.int .i64 k] w fun e w' => e = .returned (.int .i64 (manyL k)) ∧ w = w' := by
  rcases hk with rfl | rfl | rfl
  · go_enter Tryd.func38, Tryd.ntmps38
    go_wp2
    go_ret
    exact ⟨rfl, rfl⟩
  · go_enter Tryd.func38, Tryd.ntmps38
    go_wp2
    go_ret
    exact ⟨rfl, rfl⟩
  · go_enter Tryd.func38, Tryd.ntmps38
    go_wp2
    go_ret
    exact ⟨rfl, rfl⟩

/-- What is wrong with a pick. -/
def checkL (p : Pk) : Int :=
  if p.1 < 0 ∨ 3 ≤ p.1 then 2
  else if (p.1 = 2 ∧ p.2.1 ≠ 0) ∨ (p.1 ≠ 2 ∧ (p.2.1 < 1 ∨ 8 < p.2.1)) then 3
  else if (p.1 = 1 ∧ p.2.2 ≠ 0) ∨ p.2.2 < -2147483648 ∨ 2147483647 < p.2.2 then 4 else 0

set_option maxHeartbeats 1600000 in
theorem check_any (k t c : Int) (w : World) : Calls Tryd.prog 29 #[.agg #[.int .i64 k, .int .i64 t, .int .i64 c]] w fun e w' => e = .returned (.int .i64 (checkL (k, t, c))) ∧ Below w.heap.size w w' := by
  have BB := Lib.hid (below1 w (.cells #[.int .i64 k, .int .i64 t, .int .i64 c] 35))
  by_cases h1 : k < 0
  · have e2 : (k != 2) = true := by rw [bne_iff_ne]; omega
    rw [show checkL (_, _, _) = 2 by unfold checkL; simp only; split <;> (try split) <;> (try split) <;> first | rfl | (exfalso; omega) | (exfalso; simp_all; done) | (exfalso; simp_all; omega)]
    go_enter Tryd.func29, Tryd.ntmps29
    go_wp2
    go_ret
    exact ⟨rfl, BB.out⟩
  · by_cases h2 : 3 ≤ k
    · have e2 : (k != 2) = true := by rw [bne_iff_ne]; omega
      rw [show checkL (_, _, _) = 2 by unfold checkL; simp only; split <;> (try split) <;> (try split) <;> first | rfl | (exfalso; omega) | (exfalso; simp_all; done) | (exfalso; simp_all; omega)]
      go_enter Tryd.func29, Tryd.ntmps29
      go_wp2
      go_ret
      exact ⟨rfl, BB.out⟩
    · obtain rfl | rfl | rfl : k = 0 ∨ k = 1 ∨ k = 2 := by omega
      · clear h1 h2
        by_cases h3 : t < 1
        · skip
          rw [show checkL (_, _, _) = 3 by unfold checkL; simp only; split <;> (try split) <;> (try split) <;> first | rfl | (exfalso; omega) | (exfalso; simp_all; done) | (exfalso; simp_all; omega)]
          go_enter Tryd.func29, Tryd.ntmps29
          go_wp2
          go_ret
          exact ⟨rfl, BB.out⟩
        · by_cases h4 : 8 < t
          · skip
            rw [show checkL (_, _, _) = 3 by unfold checkL; simp only; split <;> (try split) <;> (try split) <;> first | rfl | (exfalso; omega) | (exfalso; simp_all; done) | (exfalso; simp_all; omega)]
            go_enter Tryd.func29, Tryd.ntmps29
            go_wp2
            go_ret
            exact ⟨rfl, BB.out⟩
          · skip
            by_cases h5 : c < -2147483648
            · skip
              rw [show checkL (_, _, _) = 4 by unfold checkL; simp only; split <;> (try split) <;> (try split) <;> first | rfl | (exfalso; omega) | (exfalso; simp_all; done) | (exfalso; simp_all; omega)]
              go_enter Tryd.func29, Tryd.ntmps29
              go_wp2
              go_ret
              exact ⟨rfl, BB.out⟩
            · by_cases h6 : 2147483647 < c
              · skip
                rw [show checkL (_, _, _) = 4 by unfold checkL; simp only; split <;> (try split) <;> (try split) <;> first | rfl | (exfalso; omega) | (exfalso; simp_all; done) | (exfalso; simp_all; omega)]
                go_enter Tryd.func29, Tryd.ntmps29
                go_wp2
                go_ret
                exact ⟨rfl, BB.out⟩
              · skip
                rw [show checkL (_, _, _) = 0 by unfold checkL; simp only; split <;> (try split) <;> (try split) <;> first | rfl | (exfalso; omega) | (exfalso; simp_all; done) | (exfalso; simp_all; omega)]
                go_enter Tryd.func29, Tryd.ntmps29
                go_wp2
                go_ret
                exact ⟨rfl, BB.out⟩
      · clear h1 h2
        by_cases h3 : t < 1
        · skip
          rw [show checkL (_, _, _) = 3 by unfold checkL; simp only; split <;> (try split) <;> (try split) <;> first | rfl | (exfalso; omega) | (exfalso; simp_all; done) | (exfalso; simp_all; omega)]
          go_enter Tryd.func29, Tryd.ntmps29
          go_wp2
          go_ret
          exact ⟨rfl, BB.out⟩
        · by_cases h4 : 8 < t
          · skip
            rw [show checkL (_, _, _) = 3 by unfold checkL; simp only; split <;> (try split) <;> (try split) <;> first | rfl | (exfalso; omega) | (exfalso; simp_all; done) | (exfalso; simp_all; omega)]
            go_enter Tryd.func29, Tryd.ntmps29
            go_wp2
            go_ret
            exact ⟨rfl, BB.out⟩
          · skip
            by_cases h5 : c = 0
            · subst h5
              rw [show checkL (_, _, _) = 0 by unfold checkL; simp only; split <;> (try split) <;> (try split) <;> first | rfl | (exfalso; omega) | (exfalso; simp_all; done) | (exfalso; simp_all; omega)]
              go_enter Tryd.func29, Tryd.ntmps29
              go_wp2
              go_ret
              exact ⟨rfl, BB.out⟩
            · have e5 : (c != 0) = true := by rw [bne_iff_ne]; exact h5
              rw [show checkL (_, _, _) = 4 by unfold checkL; simp only; split <;> (try split) <;> (try split) <;> first | rfl | (exfalso; omega) | (exfalso; simp_all; done) | (exfalso; simp_all; omega)]
              go_enter Tryd.func29, Tryd.ntmps29
              go_wp2
              go_ret
              exact ⟨rfl, BB.out⟩
      · clear h1 h2
        by_cases h3 : t < 0
        · skip
          rw [show checkL (_, _, _) = 3 by unfold checkL; simp only; split <;> (try split) <;> (try split) <;> first | rfl | (exfalso; omega) | (exfalso; simp_all; done) | (exfalso; simp_all; omega)]
          go_enter Tryd.func29, Tryd.ntmps29
          go_wp2
          go_ret
          exact ⟨rfl, BB.out⟩
        · by_cases h4 : 0 < t
          · skip
            rw [show checkL (_, _, _) = 3 by unfold checkL; simp only; split <;> (try split) <;> (try split) <;> first | rfl | (exfalso; omega) | (exfalso; simp_all; done) | (exfalso; simp_all; omega)]
            go_enter Tryd.func29, Tryd.ntmps29
            go_wp2
            go_ret
            exact ⟨rfl, BB.out⟩
          · obtain rfl : t = 0 := by omega
            clear h3 h4
            by_cases h5 : c < -2147483648
            · skip
              rw [show checkL (_, _, _) = 4 by unfold checkL; simp only; split <;> (try split) <;> (try split) <;> first | rfl | (exfalso; omega) | (exfalso; simp_all; done) | (exfalso; simp_all; omega)]
              go_enter Tryd.func29, Tryd.ntmps29
              go_wp2
              go_ret
              exact ⟨rfl, BB.out⟩
            · by_cases h6 : 2147483647 < c
              · skip
                rw [show checkL (_, _, _) = 4 by unfold checkL; simp only; split <;> (try split) <;> (try split) <;> first | rfl | (exfalso; omega) | (exfalso; simp_all; done) | (exfalso; simp_all; omega)]
                go_enter Tryd.func29, Tryd.ntmps29
                go_wp2
                go_ret
                exact ⟨rfl, BB.out⟩
              · skip
                rw [show checkL (_, _, _) = 0 by unfold checkL; simp only; split <;> (try split) <;> (try split) <;> first | rfl | (exfalso; omega) | (exfalso; simp_all; done) | (exfalso; simp_all; omega)]
                go_enter Tryd.func29, Tryd.ntmps29
                go_wp2
                go_ret
                exact ⟨rfl, BB.out⟩
end Go.Proofs.YtpgcnejofnhhfaaDoor