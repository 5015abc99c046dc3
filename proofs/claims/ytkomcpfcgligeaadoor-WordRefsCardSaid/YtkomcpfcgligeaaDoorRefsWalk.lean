/- Statement WordRefs: Ref and Who agree with the reference, and are inverse to each other on valid references: the walk through the law for every input. -/
import Derived.Test.YtkomcpfcgligeaaDoorAwake
import Derived.WalkKit
import Derived.WalkSpells
import Derived.WalkLawsBesides
import Derived.ProofKit
import Derived.OpenShut
import Derived.Lib.Hide
namespace Go.Proofs.YtkomcpfcgligeaaDoor.wordRefs
open Go.ChangeShapes Go.WideShapes Go.ChangeAt Go.RowKit

/-- The two numbers make a reference. -/
def Fits (a b : Int) : Prop := 1 ≤ a ∧ a ≤ 72 ∧ 1 ≤ b ∧ b ≤ 16777215

theorem back (r : Int) : r / 16777216 * 16777216 + r % 16777216 = r := by omega

set_option maxHeartbeats 800000 in
theorem walk_yy (a0 a1 a2 : Int) (h0 : 0 ≤ a2) (h1 : a2 < 4294967296) (hf : Fits a0 a1) (hg : Good a2) (w : World) :
    Calls Tryd.prog 3 #[.int .i64 a0, .int .i64 a1, .int .u32 a2] w fun e w' => e = .returned (.bool true) ∧ Below w.heap.size w w' := by
  have F := Lib.hid hf
  have G := Lib.hid hg
  obtain ⟨f1, f2, f3, f4⟩ := hf
  obtain ⟨g1, g2, g3⟩ := hg
  have q1 : (a0 * 16777216 + a1) / 16777216 = a0 := by omega
  have q2 : (a0 * 16777216 + a1) % 16777216 = a1 := by omega
  have gq : Good (a0 * 16777216 + a1) := by unfold Good; omega
  have GQ := Lib.hid gq
  have q3 := back a2
  have q4 : (a2 / 16777216 != 0) = true := by rw [bne_iff_ne]; omega
  clear gq
  go_enter Tryd.func3, Tryd.ntmps3
  go_wp2_with fail
  refine (ref_ok _ _ _ f1 f2 f3 f4).mono ?_
  rintro e w' ⟨rfl, rfl⟩
  go_wp2_with fail
  refine (rref_ok _ _ _ f1 f2 f3 f4).mono ?_
  rintro e w' ⟨rfl, rfl⟩
  go_wp2_with fail
  refine (who_ok _ _ h0 h1 G.out).mono ?_
  rintro e w' ⟨rfl, rfl⟩
  go_wp2_with fail
  refine (rwho_ok _ _ h0 h1 G.out).mono ?_
  rintro e w' ⟨rfl, rfl⟩
  go_wp2_with fail
  refine (who_ok _ _ (by omega) (by omega) GQ.out).mono ?_
  rintro e w' ⟨rfl, rfl⟩
  go_wp2_with fail
  refine (ref_ok _ _ _ g1 g2 g3 (by omega)).mono ?_
  rintro e w' ⟨rfl, rfl⟩
  go_wp2_with fail
  refine (awake_any _).mono ?_
  rintro e w' ⟨rfl, hb⟩
  go_wp2
  go_ret
  exact ⟨rfl, hb⟩

set_option maxHeartbeats 800000 in
theorem walk_ny (a0 a1 a2 : Int) (h0 : 0 ≤ a2) (h1 : a2 < 4294967296) (hf : ¬ Fits a0 a1) (hg : Good a2) (w : World) :
    Calls Tryd.prog 3 #[.int .i64 a0, .int .i64 a1, .int .u32 a2] w fun e w' => e = .returned (.bool true) ∧ Below w.heap.size w w' := by
  have F := Lib.hid hf
  have G := Lib.hid hg
  clear hf
  obtain ⟨g1, g2, g3⟩ := hg
  have q3 := back a2
  have q4 : (a2 / 16777216 != 0) = true := by rw [bne_iff_ne]; omega
  go_enter Tryd.func3, Tryd.ntmps3
  go_wp2_with fail
  refine (ref_no _ _ _ F.out).mono ?_
  rintro e w' ⟨rfl, rfl⟩
  go_wp2_with fail
  refine (rref_no _ _ _ F.out).mono ?_
  rintro e w' ⟨rfl, rfl⟩
  go_wp2_with fail
  refine (who_ok _ _ h0 h1 G.out).mono ?_
  rintro e w' ⟨rfl, rfl⟩
  go_wp2_with fail
  refine (rwho_ok _ _ h0 h1 G.out).mono ?_
  rintro e w' ⟨rfl, rfl⟩
  go_wp2_with fail
  refine (ref_ok _ _ _ g1 g2 g3 (by omega)).mono ?_
  rintro e w' ⟨rfl, rfl⟩
  go_wp2_with fail
  refine (awake_any _).mono ?_
  rintro e w' ⟨rfl, hb⟩
  go_wp2
  go_ret
  exact ⟨rfl, hb⟩

set_option maxHeartbeats 800000 in
theorem walk_yn (a0 a1 a2 : Int) (h0 : 0 ≤ a2) (h1 : a2 < 4294967296) (hf : Fits a0 a1) (hg : ¬ Good a2) (w : World) :
    Calls Tryd.prog 3 #[.int .i64 a0, .int .i64 a1, .int .u32 a2] w fun e w' => e = .returned (.bool true) ∧ Below w.heap.size w w' := by
  have G := Lib.hid hg
  clear hg
  obtain ⟨f1, f2, f3, f4⟩ := hf
  have q1 : (a0 * 16777216 + a1) / 16777216 = a0 := by omega
  have q2 : (a0 * 16777216 + a1) % 16777216 = a1 := by omega
  have gq : Good (a0 * 16777216 + a1) := by unfold Good; omega
  have GQ := Lib.hid gq
  clear gq
  go_enter Tryd.func3, Tryd.ntmps3
  go_wp2_with fail
  refine (ref_ok _ _ _ f1 f2 f3 f4).mono ?_
  rintro e w' ⟨rfl, rfl⟩
  go_wp2_with fail
  refine (rref_ok _ _ _ f1 f2 f3 f4).mono ?_
  rintro e w' ⟨rfl, rfl⟩
  go_wp2_with fail
  refine (who_no _ _ h0 h1 G.out).mono ?_
  rintro e w' ⟨rfl, rfl⟩
  go_wp2_with fail
  refine (rwho_no _ _ h0 h1 G.out).mono ?_
  rintro e w' ⟨rfl, rfl⟩
  go_wp2_with fail
  refine (who_ok _ _ (by omega) (by omega) GQ.out).mono ?_
  rintro e w' ⟨rfl, rfl⟩
  go_wp2_with fail
  refine (ref_no _ _ _ (by omega)).mono ?_
  rintro e w' ⟨rfl, rfl⟩
  go_wp2_with fail
  refine (awake_any _).mono ?_
  rintro e w' ⟨rfl, hb⟩
  go_wp2
  go_ret
  exact ⟨rfl, hb⟩

set_option maxHeartbeats 800000 in
theorem walk_nn (a0 a1 a2 : Int) (h0 : 0 ≤ a2) (h1 : a2 < 4294967296) (hf : ¬ Fits a0 a1) (hg : ¬ Good a2) (w : World) :
    Calls Tryd.prog 3 #[.int .i64 a0, .int .i64 a1, .int .u32 a2] w fun e w' => e = .returned (.bool true) ∧ Below w.heap.size w w' := by
  have F := Lib.hid hf
  have G := Lib.hid hg
  clear hf hg
  go_enter Tryd.func3, Tryd.ntmps3
  go_wp2_with fail
  refine (ref_no _ _ _ F.out).mono ?_
  rintro e w' ⟨rfl, rfl⟩
  go_wp2_with fail
  refine (rref_no _ _ _ F.out).mono ?_
  rintro e w' ⟨rfl, rfl⟩
  go_wp2_with fail
  refine (who_no _ _ h0 h1 G.out).mono ?_
  rintro e w' ⟨rfl, rfl⟩
  go_wp2_with fail
  refine (rwho_no _ _ h0 h1 G.out).mono ?_
  rintro e w' ⟨rfl, rfl⟩
  go_wp2_with fail
  refine (ref_no _ _ _ (by omega)).mono ?_
  rintro e w' ⟨rfl, rfl⟩
  go_wp2_with fail
  refine (awake_any _).mono ?_
  rintro e w' ⟨rfl, hb⟩
  go_wp2
  go_ret
  exact ⟨rfl, hb⟩

theorem walk (a0 a1 a2 : Int) (w2 : (Lit.int .u32 a2).wf = true) (w : World) :
    Calls Tryd.prog 3 #[.int .i64 a0, .int .i64 a1, .int .u32 a2] w fun e w' => e = .returned (.bool true) ∧ Below w.heap.size w w' := by
  have hb := bounds_u32 w2
  by_cases hf : Fits a0 a1 <;> by_cases hg : Good a2
  · exact walk_yy _ _ _ (by omega) (by omega) hf hg w
  · exact walk_yn _ _ _ (by omega) (by omega) hf hg w
  · exact walk_ny _ _ _ (by omega) (by omega) hf hg w
  · exact walk_nn _ _ _ (by omega) (by omega) hf hg w
end Go.Proofs.YtkomcpfcgligeaaDoor.wordRefs
