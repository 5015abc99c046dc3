/- The reference's Check: what is wrong with a pick. -/
import Derived.Test.YtpgcnejofnhhfaaDoorSmall
namespace Go.Proofs.YtpgcnejofnhhfaaDoor
open Go.ChangeShapes Go.WideShapes Go.ChangeAt Go.RowKit

set_option maxHeartbeats 1600000 in
theorem rcheck_any (k t c : Int) (w : World) : Calls Tryd.prog 16 #[.agg #[.int .i64 k, .int .i64 t, .int .i64 c]] w fun e w' => e = .returned (.int .i64 (checkL (k, t, c))) ∧ Below w.heap.size w w' := by
  have BB := Lib.hid (below1 w (.cells #[.int .i64 k, .int .i64 t, .int .i64 c] 37))
  by_cases h1 : k < 0
  · have e2 : (k != 2) = true := by rw [bne_iff_ne]; omega
    rw [show checkL (_, _, _) = 2 by unfold checkL; simp only; split <;> (try split) <;> (try split) <;> first | rfl | (exfalso; omega) | (exfalso; simp_all; done) | (exfalso; simp_all; omega)]
    go_enter Tryd.func16, Tryd.ntmps16
    go_wp2
    go_ret
    exact ⟨rfl, BB.out⟩
  · by_cases h2 : 3 ≤ k
    · have e2 : (k != 2) = true := by rw [bne_iff_ne]; omega
      rw [show checkL (_, _, _) = 2 by unfold checkL; simp only; split <;> (try split) <;> (try split) <;> first | rfl | (exfalso; omega) | (exfalso; simp_all; done) | (exfalso; simp_all; omega)]
      go_enter Tryd.func16, Tryd.ntmps16
      go_wp2
      go_ret
      exact ⟨rfl, BB.out⟩
    · obtain rfl | rfl | rfl : k = 0 ∨ k = 1 ∨ k = 2 := by omega
      · clear h1 h2
        by_cases h3 : t < 1
        · skip
          rw [show checkL (_, _, _) = 3 by unfold checkL; simp only; split <;> (try split) <;> (try split) <;> first | rfl | (exfalso; omega) | (exfalso; simp_all; done) | (exfalso; simp_all; omega)]
          go_enter Tryd.func16, Tryd.ntmps16
          go_wp2
          go_ret
          exact ⟨rfl, BB.out⟩
        · by_cases h4 : 8 < t
          · skip
            rw [show checkL (_, _, _) = 3 by unfold checkL; simp only; split <;> (try split) <;> (try split) <;> first | rfl | (exfalso; omega) | (exfalso; simp_all; done) | (exfalso; simp_all; omega)]
            go_enter Tryd.func16, Tryd.ntmps16
            go_wp2
            go_ret
            exact ⟨rfl, BB.out⟩
          · skip
            by_cases h5 : c < -2147483648
            · skip
              rw [show checkL (_, _, _) = 4 by unfold checkL; simp only; split <;> (try split) <;> (try split) <;> first | rfl | (exfalso; omega) | (exfalso; simp_all; done) | (exfalso; simp_all; omega)]
              go_enter Tryd.func16, Tryd.ntmps16
              go_wp2
              go_ret
              exact ⟨rfl, BB.out⟩
            · by_cases h6 : 2147483647 < c
              · skip
                rw [show checkL (_, _, _) = 4 by unfold checkL; simp only; split <;> (try split) <;> (try split) <;> first | rfl | (exfalso; omega) | (exfalso; simp_all; done) | (exfalso; simp_all; omega)]
                go_enter Tryd.func16, Tryd.ntmps16
                go_wp2
                go_ret
                exact ⟨rfl, BB.out⟩
              · skip
                rw [show checkL (_, _, _) = 0 by unfold checkL; simp only; split <;> (try split) <;> (try split) <;> first | rfl | (exfalso; omega) | (exfalso; simp_all; done) | (exfalso; simp_all; omega)]
                go_enter Tryd.func16, Tryd.ntmps16
                go_wp2
                go_ret
                exact ⟨rfl, BB.out⟩
      · clear h1 h2
        by_cases h3 : t < 1
        · skip
          rw [show checkL (_, _, _) = 3 by unfold checkL; simp only; split <;> (try split) <;> (try split) <;> first | rfl | (exfalso; omega) | (exfalso; simp_all; done) | (exfalso; simp_all; omega)]
          go_enter Tryd.func16, Tryd.ntmps16
          go_wp2
          go_ret
          exact ⟨rfl, BB.out⟩
        · by_cases h4 : 8 < t
          · skip
            rw [show checkL (_, _, _) = 3 by unfold checkL; simp only; split <;> (try split) <;> (try split) <;> first | rfl | (exfalso; omega) | (exfalso; simp_all; done) | (exfalso; simp_all; omega)]
            go_enter Tryd.func16, Tryd.ntmps16
            go_wp2
            go_ret
            exact ⟨rfl, BB.out⟩
          · skip
            by_cases h5 : c = 0
            · subst h5
              rw [show checkL (_, _, _) = 0 by unfold checkL; simp only; split <;> (try split) <;> (try split) <;> first | rfl | (exfalso; omega) | (exfalso; simp_all; done) | (exfalso; simp_all; omega)]
              go_enter Tryd.func16, Tryd.ntmps16
              go_wp2
              go_ret
              exact ⟨rfl, BB.out⟩
            · have e5 : (c != 0) = true := by rw [bne_iff_ne]; exact h5
              rw [show checkL (_, _, _) = 4 by unfold checkL; simp only; split <;> (try split) <;> (try split) <;> first | rfl | (exfalso; omega) | (exfalso; simp_all; done) | (exfalso; simp_all; omega)]
              go_enter Tryd.func16, Tryd.ntmps16
              go_wp2
              go_ret
              exact ⟨rfl, BB.out⟩
      · clear h1 h2
        by_cases h3 : t < 0
        · skip
          rw [show checkL (_, _, _) = 3 by unfold checkL; simp only; split <;> (try split) <;> (try split) <;> first | rfl | (exfalso; omega) | (exfalso; simp_all; done) | (exfalso; simp_all; omega)]
          go_enter Tryd.func16, Tryd.ntmps16
          go_wp2
          go_ret
          exact ⟨rfl, BB.out⟩
        · by_cases h4 : 0 < t
          · skip
            rw [show checkL (_, _, _) = 3 by unfold checkL; simp only; split <;> (try split) <;> (try split) <;> first | rfl | (exfalso; omega) | (exfalso; simp_all; done) | (exfalso; simp_all; omega)]
            go_enter Tryd.func16, Tryd.ntmps16
            go_wp2
            go_ret
            exact ⟨rfl, BB.out⟩
          · obtain rfl : t = 0 := by omega
            clear h3 h4
            by_cases h5 : c < -2147483648
            · skip
              rw [show checkL (_, _, _) = 4 by unfold checkL; simp only; split <;> (try split) <;> (try split) <;> first | rfl | (exfalso; omega) | (exfalso; simp_all; done) | (exfalso; simp_all; omega)]
              go_enter Tryd.func16, Tryd.ntmps16
              go_wp2
              go_ret
              exact ⟨rfl, BB.out⟩
            · by_cases h6 : 2147483647 < c
              · skip
                rw [show checkL (_, _, _) = 4 by unfold checkL; simp only; split <;> (try split) <;> (try split) <;> first | rfl | (exfalso; omega) | (exfalso; simp_all; done) | (exfalso; simp_all; omega)]
                go_enter Tryd.func16, Tryd.ntmps16
                go_wp2
                go_ret
                exact ⟨rfl, BB.out⟩
              · skip
                rw [show checkL (_, _, _) = 0 by unfold checkL; simp only; split <;> (try split) <;> (try split) <;> first | rfl | (exfalso; omega) | (exfalso; simp_all; done) | (exfalso; simp_all; omega)]
                go_enter Tryd.func16, Tryd.ntmps16
                go_wp2
                go_ret
                exact ⟨rfl, BB.out⟩
end Go.Proofs.YtpgcnejofnhhfaaDoor
