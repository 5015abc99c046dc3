/- Statement WordBack: installing and releasing a word: the walk through the law for every input. -/
import Derived.Test.YtkomcpfcgligeaaDoorAwake
import Derived.Test.YtkomcpfcgligeaaDoorEq
import Derived.WalkKit
import Derived.WalkSpells
import Derived.WalkLawsBesides
import Derived.ProofKit
import Derived.OpenShut
import Derived.Lib.Hide
import Derived.Laws.StructEq
namespace Go.Proofs.YtkomcpfcgligeaaDoor.wordBack
open Go.ChangeShapes Go.WideShapes Go.ChangeAt Go.RowKit

set_option maxHeartbeats 800000 in
theorem walk_no (v n q x r : Int) (h0 : 0 ≤ r) (h1 : r < 4294967296) (hg : ¬ Good r) (w : World) :
    Calls Tryd.prog 5 #[.agg #[.int .i64 v, .int .u32 n, .int .u32 q], .int .i64 x, .int .u32 r] w fun e w' => e = .returned (.bool true) ∧ Below w.heap.size w w' := by
  have G := Lib.hid hg
  have gW := guardW
  have eqv := fun w => eqlW v n 0 v n 0 w
  clear hg
  go_enter Tryd.func5, Tryd.ntmps5
  go_wp2_with fail
  refine (install_range _ _ _ _ h0 h1 G.out).mono ?_
  rintro e w1 ⟨rfl, hb1⟩
  have X := Lib.hid ((HasW.new w v n 0).below hb1)
  have B1 := Lib.hid (((Below.refl _ _).alloc (Nat.le_refl _) _).trans (hb1.mono (by simp)))
  clear hb1
  obtain ⟨⟨x0, x1, x2⟩, xl⟩ := X.out
  go_wp2_with fail
  refine (awake_any _).mono ?_
  rintro e w2 ⟨rfl, hb2⟩
  have B2 := Lib.hid ((B1.out.alloc B1.out.size _).trans (hb2.mono (by have := B1.out.size; simp; omega)))
  clear hb2 x0 x1 x2 xl X B1
  go_wp2
  go_ret
  exact ⟨rfl, B2.out⟩

set_option maxHeartbeats 800000 in
theorem walk_full (v q x r : Int) (h0 : 0 ≤ r) (h1 : r < 4294967296) (hg : Good r) (w : World) :
    Calls Tryd.prog 5 #[.agg #[.int .i64 v, .int .u32 4294967295, .int .u32 q], .int .i64 x, .int .u32 r] w fun e w' => e = .returned (.bool true) ∧ Below w.heap.size w w' := by
  have G := Lib.hid hg
  have gW := guardW
  have nq1 := fun w => neqW v 4294967295 0 v 4294967295 0 w
  have eq1 := fun w => eqlW v 4294967295 r v 4294967295 r w
  clear hg
  go_enter Tryd.func5, Tryd.ntmps5
  go_wp2_with fail
  refine (install_ok _ _ _ _ h0 h1 G.out).mono ?_
  rintro e w1 ⟨rfl, hb1⟩
  have P := Lib.hid ((HasW.new w v 4294967295 0).below hb1)
  have B := Lib.hid (((Below.refl _ _).alloc (Nat.le_refl _) _).trans (hb1.mono (by simp)))
  clear hb1
  go_wp2_with fail
  refine (install_held _ _ _ _ _ h0 h1 G.out).mono ?_
  rintro e w2 ⟨rfl, hb2⟩
  have P2 := Lib.hid ((P.out.alloc _).below hb2)
  have X2 := Lib.hid ((HasW.new w1 v 4294967295 r).below hb2)
  have B2 := Lib.hid ((B.out.alloc B.out.size _).trans (hb2.mono (by have := B.out.size; simp; omega)))
  clear hb2 P B
  obtain ⟨⟨x0, x1, x2⟩, xl⟩ := X2.out
  go_wp2_with fail
  refine (release_keep _ _ _ _ _ h0 h1 G.out).mono ?_
  rintro e w3 ⟨rfl, hb3⟩
  clear x0 x1 x2 xl
  have P3 := Lib.hid ((P2.out.alloc _).below hb3)
  have X3 := Lib.hid ((X2.out.alloc _).below hb3)
  have B3 := Lib.hid ((B2.out.alloc B2.out.size _).trans (hb3.mono (by have := B2.out.size; simp; omega)))
  clear hb3 P2 X2 B2
  obtain ⟨⟨x0, x1, x2⟩, xl⟩ := X3.out
  go_wp2_with fail
  refine (release_full _ _ _ _ h0 h1 G.out).mono ?_
  rintro e w4 ⟨rfl, hb4⟩
  clear x0 x1 x2 xl
  have P4 := Lib.hid ((P3.out.alloc _).below hb4)
  have X4 := Lib.hid ((X3.out.alloc _).below hb4)
  have Y4 := Lib.hid ((HasW.new w3 v 4294967295 0).below hb4)
  have B4 := Lib.hid ((B3.out.alloc B3.out.size _).trans (hb4.mono (by have := B3.out.size; simp; omega)))
  clear hb4 P3 X3 B3
  obtain ⟨⟨p0, p1, p2⟩, pl⟩ := P4.out
  obtain ⟨⟨x0, x1, x2⟩, xl⟩ := X4.out
  obtain ⟨⟨y0, y1, y2⟩, yl⟩ := Y4.out
  go_wp2_with fail
  refine (plain_held _ _ _ _ h0 h1 G.out).mono ?_
  rintro e w5 ⟨rfl, hb5⟩
  clear x0 x1 x2 xl p0 p1 p2 pl y0 y1 y2 yl
  have X5 := Lib.hid ((X4.out.alloc _).below hb5)
  have Y5 := Lib.hid ((Y4.out.alloc _).below hb5)
  have Z5 := Lib.hid ((HasW.new w4 v 4294967295 r).below hb5)
  have B5 := Lib.hid ((B4.out.alloc B4.out.size _).trans (hb5.mono (by have := B4.out.size; simp; omega)))
  clear hb5 P4 X4 Y4 B4
  obtain ⟨⟨y0, y1, y2⟩, yl⟩ := Y5.out
  go_wp2_with fail
  refine (plain_yes _ _ _).mono ?_
  rintro e w6 ⟨rfl, hb6⟩
  clear y0 y1 y2 yl
  have X6 := Lib.hid (X5.out.below hb6)
  have Z6 := Lib.hid (Z5.out.below hb6)
  have B6 := Lib.hid (B5.out.trans (hb6.mono B5.out.size))
  clear hb6 X5 Y5 Z5 B5
  obtain ⟨⟨x0, x1, x2⟩, xl⟩ := X6.out
  obtain ⟨⟨z0, z1, z2⟩, zl⟩ := Z6.out
  go_wp2_with fail
  refine (awake_any _).mono ?_
  rintro e w7 ⟨rfl, hb7⟩
  have B7 := Lib.hid (B6.out.trans (hb7.mono B6.out.size))
  clear x0 x1 x2 xl z0 z1 z2 zl hb7 X6 Z6 B6
  go_wp2
  go_ret
  exact ⟨rfl, B7.out⟩

set_option maxHeartbeats 800000 in
theorem walk_ok (v n q x r : Int) (hn : 0 ≤ n) (hn2 : n < 4294967295) (h0 : 0 ≤ r) (h1 : r < 4294967296) (hg : Good r) (w : World) :
    Calls Tryd.prog 5 #[.agg #[.int .i64 v, .int .u32 n, .int .u32 q], .int .i64 x, .int .u32 r] w fun e w' => e = .returned (.bool true) ∧ Below w.heap.size w w' := by
  have G := Lib.hid hg
  have gW := guardW
  have hne : (n == 4294967295) = false := by rw [beq_eq_false_iff_ne]; omega
  have nq1 := fun w => neqW v n 0 v n 0 w
  clear hg
  go_enter Tryd.func5, Tryd.ntmps5
  go_wp2_with fail
  refine (install_ok _ _ _ _ h0 h1 G.out).mono ?_
  rintro e w1 ⟨rfl, hb1⟩
  have P := Lib.hid ((HasW.new w v n 0).below hb1)
  have B := Lib.hid (((Below.refl _ _).alloc (Nat.le_refl _) _).trans (hb1.mono (by simp)))
  clear hb1
  go_wp2_with fail
  refine (install_held _ _ _ _ _ h0 h1 G.out).mono ?_
  rintro e w2 ⟨rfl, hb2⟩
  have P2 := Lib.hid ((P.out.alloc _).below hb2)
  have X2 := Lib.hid ((HasW.new w1 v n r).below hb2)
  have B2 := Lib.hid ((B.out.alloc B.out.size _).trans (hb2.mono (by have := B.out.size; simp; omega)))
  clear hb2 P B
  obtain ⟨⟨x0, x1, x2⟩, xl⟩ := X2.out
  go_wp2_with fail
  refine (release_keep _ _ _ _ _ h0 h1 G.out).mono ?_
  rintro e w3 ⟨rfl, hb3⟩
  clear x0 x1 x2 xl
  have P3 := Lib.hid ((P2.out.alloc _).below hb3)
  have X3 := Lib.hid ((X2.out.alloc _).below hb3)
  have B3 := Lib.hid ((B2.out.alloc B2.out.size _).trans (hb3.mono (by have := B2.out.size; simp; omega)))
  clear hb3 P2 X2 B2
  obtain ⟨⟨x0, x1, x2⟩, xl⟩ := X3.out
  go_wp2_with fail
  refine (release_ok _ _ _ _ _ hn hn2 h0 h1 G.out).mono ?_
  rintro e w4 ⟨rfl, hb4⟩
  clear x0 x1 x2 xl
  have P4 := Lib.hid ((P3.out.alloc _).below hb4)
  have X4 := Lib.hid ((X3.out.alloc _).below hb4)
  have Y4 := Lib.hid ((HasW.new w3 v n 0).below hb4)
  have B4 := Lib.hid ((B3.out.alloc B3.out.size _).trans (hb4.mono (by have := B3.out.size; simp; omega)))
  clear hb4 P3 X3 B3
  obtain ⟨⟨p0, p1, p2⟩, pl⟩ := P4.out
  obtain ⟨⟨x0, x1, x2⟩, xl⟩ := X4.out
  obtain ⟨⟨y0, y1, y2⟩, yl⟩ := Y4.out
  go_wp2_with fail
  refine (plain_held _ _ _ _ h0 h1 G.out).mono ?_
  rintro e w5 ⟨rfl, hb5⟩
  clear x0 x1 x2 xl p0 p1 p2 pl y0 y1 y2 yl
  have Y5 := Lib.hid ((Y4.out.alloc _).below hb5)
  have Z5 := Lib.hid ((HasW.new w4 x (n + 1) 0).below hb5)
  have B5 := Lib.hid ((B4.out.alloc B4.out.size _).trans (hb5.mono (by have := B4.out.size; simp; omega)))
  clear hb5 P4 X4 Y4 B4
  obtain ⟨⟨y0, y1, y2⟩, yl⟩ := Y5.out
  go_wp2_with fail
  refine (plain_yes _ _ _).mono ?_
  rintro e w6 ⟨rfl, hb6⟩
  clear y0 y1 y2 yl
  have Z6 := Lib.hid (Z5.out.below hb6)
  have B6 := Lib.hid (B5.out.trans (hb6.mono B5.out.size))
  clear hb6 Y5 Z5 B5
  obtain ⟨⟨z0, z1, z2⟩, zl⟩ := Z6.out
  go_wp2_with fail
  refine (awake_any _).mono ?_
  rintro e w7 ⟨rfl, hb7⟩
  have B7 := Lib.hid (B6.out.trans (hb7.mono B6.out.size))
  clear z0 z1 z2 zl hb7 Z6 B6
  go_wp2
  go_ret
  exact ⟨rfl, B7.out⟩

theorem walk (v n q x r : Int) (wn : (Lit.int .u32 n).wf = true) (wr : (Lit.int .u32 r).wf = true) (w : World) :
    Calls Tryd.prog 5 #[.agg #[.int .i64 v, .int .u32 n, .int .u32 q], .int .i64 x, .int .u32 r] w fun e w' => e = .returned (.bool true) ∧ Below w.heap.size w w' := by
  have hn := bounds_u32 wn
  have hr := bounds_u32 wr
  by_cases hg : Good r
  · by_cases h : n = 4294967295
    · subst h
      exact walk_full _ _ _ _ (by omega) (by omega) hg w
    · exact walk_ok _ _ _ _ _ (by omega) (by omega) (by omega) (by omega) hg w
  · exact walk_no _ _ _ _ _ (by omega) (by omega) hg w
end Go.Proofs.YtkomcpfcgligeaaDoor.wordBack
