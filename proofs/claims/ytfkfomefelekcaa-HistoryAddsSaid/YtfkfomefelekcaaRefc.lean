/- The contract of the reference's Choose. -/
import Derived.Test.YtfkfomefelekcaaAwake
namespace Go.Proofs.Ytfkfomefelekcaa
open Go.RowKit Go.Shelf Go.Maps

set_option maxRecDepth 100000 in
set_option maxHeartbeats 1600000 in
theorem rchoose_any (n : Nat) (f c : Int) (w : World) (hn : 0 < n) (hl : n ≤ 1000) (f0 : -9223372036854775808 ≤ f) (f1 : f < 9223372036854775808) (c0 : -9223372036854775808 ≤ c) (c1 : c < 9223372036854775808) :
    Calls Try.prog 19 #[.int .i64 n, .int .i64 f, .int .i64 c] w fun e w' => e = .returned (.int .i64 (chooseL n f c)) ∧ w = w' := by
  have hn0 : (n : Int) ≠ 0 := by omega
  by_cases hf : f < 0
  · by_cases hc : c < 0
    · skip
      have hx : chooseL n f c = (n : Int) - 1 := by rw [chooseL_eq (g := 0) (d := 0) (x := 0) (by omega) (by omega) (by omega) (by simp)]; omega
      rw [hx]
      clear hx
      go_enter Try.func19, Try.ntmps19
      go_wp2_with fail
      go_loopw [8, 9] (fun av iv wr => ∃ i : Nat, (i : Int) ≤ (0 : Int) ∧ av = .int .i64 ((n : Int) - 1 - i) ∧ iv = .int .i64 i ∧ w = wr) (fun _ iv _ => ((0 : Int) - intOf iv).toNat)
      case atStart => exact ⟨0, by omega, by simp, by simp, rfl⟩
      case round =>
        obtain ⟨i, hi, rfl, rfl, rfl⟩ := hrel
        have hi0 : i = 0 := by omega
        subst hi0
        go_wp2
        go_ret
        exact ⟨by simp, rfl⟩
    · skip
      have r0 := Int.emod_nonneg c (show (n : Int) ≠ 0 by omega)
      have r1 := Int.emod_lt_of_pos c (show 0 < (n : Int) by omega)
      have hx : chooseL n f c = (n : Int) - 1 - c % (n : Int) := chooseL_eq (g := 0) (d := c) (by omega) (by omega) (by omega) (by rw [show (n : Int) - 1 - 0 + 1 = n by omega])
      obtain ⟨R, hR⟩ : ∃ R, c % (n : Int) = R := ⟨_, rfl⟩
      rw [hx, hR]
      rw [hR] at r0 r1
      clear hx
      go_enter Try.func19, Try.ntmps19
      go_wp2_with fail
      (try rw [hR])
      go_loopw [8, 9] (fun av iv wr => ∃ i : Nat, (i : Int) ≤ R ∧ av = .int .i64 ((n : Int) - 1 - i) ∧ iv = .int .i64 i ∧ w = wr) (fun _ iv _ => (R - intOf iv).toNat)
      case atStart => exact ⟨0, by omega, by simp, by simp, rfl⟩
      case round =>
        obtain ⟨i, hi, rfl, rfl, rfl⟩ := hrel
        by_cases hlt : (i : Int) < R
        · go_wp2
          go_roundw
          case rel => exact ⟨i + 1, by omega, by congr 1; omega, by simp, by first | rfl | trivial⟩
          case measure => (simp [intOf]; omega)
        · have he : (i : Int) = R := by omega
          go_wp2
          go_ret
          exact ⟨by rw [← he]; rfl, rfl⟩
  · by_cases hf2 : (n : Int) ≤ f
    · by_cases hc : c < 0
      · skip
        have hx : chooseL n f c = (n : Int) - 1 := by rw [chooseL_eq (g := (n : Int) - 1) (d := 0) (x := 0) (by omega) (by omega) (by omega) (by simp)]; omega
        rw [hx]
        clear hx
        go_enter Try.func19, Try.ntmps19
        go_wp2_with fail
        go_loopw [8, 9] (fun av iv wr => ∃ i : Nat, (i : Int) ≤ (0 : Int) ∧ av = .int .i64 ((n : Int) - 1 - i) ∧ iv = .int .i64 i ∧ w = wr) (fun _ iv _ => ((0 : Int) - intOf iv).toNat)
        case atStart => exact ⟨0, by omega, by simp, by simp, rfl⟩
        case round =>
          obtain ⟨i, hi, rfl, rfl, rfl⟩ := hrel
          have hi0 : i = 0 := by omega
          subst hi0
          go_wp2
          go_ret
          exact ⟨by simp, rfl⟩
      · skip
        have hx : chooseL n f c = (n : Int) - 1 := by rw [chooseL_eq (g := (n : Int) - 1) (d := c) (x := 0) (by omega) (by omega) (by omega) (by rw [show (n : Int) - 1 - ((n : Int) - 1) + 1 = 1 by omega]; omega)]; omega
        rw [hx]
        clear hx
        have hz : c % ((n : Int) - ((n : Int) - 1)) = 0 := by rw [show (n : Int) - ((n : Int) - 1) = 1 by omega]; omega
        go_enter Try.func19, Try.ntmps19
        go_wp2_with fail
        go_loopw [8, 9] (fun av iv wr => ∃ i : Nat, (i : Int) ≤ (0 : Int) ∧ av = .int .i64 ((n : Int) - 1 - i) ∧ iv = .int .i64 i ∧ w = wr) (fun _ iv _ => ((0 : Int) - intOf iv).toNat)
        case atStart => exact ⟨0, by omega, by simp, by simp, rfl⟩
        case round =>
          obtain ⟨i, hi, rfl, rfl, rfl⟩ := hrel
          have hi0 : i = 0 := by omega
          subst hi0
          go_wp2
          go_ret
          exact ⟨by simp, rfl⟩
    · by_cases hc : c < 0
      · skip
        have hx : chooseL n f c = (n : Int) - 1 := by rw [chooseL_eq (g := f) (d := 0) (x := 0) (by omega) (by omega) (by omega) (by simp)]; omega
        rw [hx]
        clear hx
        go_enter Try.func19, Try.ntmps19
        go_wp2_with fail
        go_loopw [8, 9] (fun av iv wr => ∃ i : Nat, (i : Int) ≤ (0 : Int) ∧ av = .int .i64 ((n : Int) - 1 - i) ∧ iv = .int .i64 i ∧ w = wr) (fun _ iv _ => ((0 : Int) - intOf iv).toNat)
        case atStart => exact ⟨0, by omega, by simp, by simp, rfl⟩
        case round =>
          obtain ⟨i, hi, rfl, rfl, rfl⟩ := hrel
          have hi0 : i = 0 := by omega
          subst hi0
          go_wp2
          go_ret
          exact ⟨by simp, rfl⟩
      · skip
        have r0 := Int.emod_nonneg c (show (n : Int) - f ≠ 0 by omega)
        have r1 := Int.emod_lt_of_pos c (show 0 < (n : Int) - f by omega)
        have hx : chooseL n f c = (n : Int) - 1 - c % ((n : Int) - f) := chooseL_eq (g := f) (d := c) (by omega) (by omega) (by omega) (by rw [show (n : Int) - 1 - f + 1 = (n : Int) - f by omega])
        obtain ⟨R, hR⟩ : ∃ R, c % ((n : Int) - f) = R := ⟨_, rfl⟩
        rw [hx, hR]
        rw [hR] at r0 r1
        clear hx
        go_enter Try.func19, Try.ntmps19
        go_wp2_with fail
        (try rw [hR])
        go_loopw [8, 9] (fun av iv wr => ∃ i : Nat, (i : Int) ≤ R ∧ av = .int .i64 ((n : Int) - 1 - i) ∧ iv = .int .i64 i ∧ w = wr) (fun _ iv _ => (R - intOf iv).toNat)
        case atStart => exact ⟨0, by omega, by simp, by simp, rfl⟩
        case round =>
          obtain ⟨i, hi, rfl, rfl, rfl⟩ := hrel
          by_cases hlt : (i : Int) < R
          · go_wp2
            go_roundw
            case rel => exact ⟨i + 1, by omega, by congr 1; omega, by simp, by first | rfl | trivial⟩
            case measure => (simp [intOf]; omega)
          · have he : (i : Int) = R := by omega
            go_wp2
            go_ret
            exact ⟨by rw [← he]; rfl, rfl⟩
end Go.Proofs.Ytfkfomefelekcaa
