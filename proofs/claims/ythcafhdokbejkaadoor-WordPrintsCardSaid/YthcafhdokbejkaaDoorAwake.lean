/- The example of the chapter on words, run by every statement: it returns true. -/
import Derived.Test.YthcafhdokbejkaaDoorBase
import Derived.WalkKit
import Derived.WalkSpells
import Derived.WalkLawsBesides
import Derived.ProofKit
import Derived.OpenShut
import Derived.Lib.Hide
namespace Go.Proofs.YthcafhdokbejkaaDoor
open Go.ChangeShapes Go.WideShapes Go.ChangeAt Go.RowKit

/-- Block b holds a word. -/
def HasW (w : World) (b : Nat) (v n r : Int) : Prop :=
  (w.cell? ⟨b, 0, none⟩ = some (.int .i64 v) ∧ w.cell? ⟨b, 1, none⟩ = some (.int .u32 n) ∧ w.cell? ⟨b, 2, none⟩ = some (.int .u32 r)) ∧ b < w.heap.size

theorem HasW.new (w : World) (v n r : Int) : HasW (w.alloc (.cells #[.int .i64 v, .int .u32 n, .int .u32 r] 33)) w.heap.size v n r := by
  refine ⟨⟨?_, ?_, ?_⟩, by simp⟩ <;> simp [go_sem]

theorem HasW.below {W w1 : World} {b : Nat} {v n r : Int} (h : HasW W b v n r) (hb : Below W.heap.size W w1) : HasW w1 b v n r := by
  obtain ⟨⟨h0, h1, h2⟩, hl⟩ := h
  exact ⟨⟨(hb.cell hl).trans h0, (hb.cell hl).trans h1, (hb.cell hl).trans h2⟩, Nat.lt_of_lt_of_le hl hb.size⟩

theorem HasW.alloc {W : World} {b : Nat} {v n r : Int} (h : HasW W b v n r) (o : Obj) : HasW (W.alloc o) b v n r :=
  h.below ((Below.refl _ _).alloc (Nat.le_refl _) o)

set_option maxHeartbeats 400000 in
theorem awake_any (w : World) :
    Calls Tryd.prog 13 #[] w fun e w' => e = .returned (.bool true) ∧ Below w.heap.size w w' := by
  go_enter Tryd.func13, Tryd.ntmps13
  go_wp2_with fail
  refine (ref_ok _ _ _ (by omega) (by omega) (by omega) (by omega)).mono ?_
  rintro e w' ⟨rfl, rfl⟩
  go_wp2_with fail
  refine (who_ok _ _ (by omega) (by omega) good7).mono ?_
  rintro e w' ⟨rfl, rfl⟩
  go_wp2_with fail
  refine (install_ok _ _ _ _ (by omega) (by omega) good7).mono ?_
  rintro e w1 ⟨rfl, hb1⟩
  go_wp2_with fail
  refine (release_ok _ _ _ _ _ (by omega) (by omega) (by omega) (by omega) good7).mono ?_
  rintro e w2 ⟨rfl, hb2⟩
  have X := Lib.hid ((HasW.new w1 5 2 16777223).below hb2)
  have B2 := Lib.hid ((hb1.alloc hb1.size _).trans (hb2.mono (by have := hb1.size; simp; omega)))
  clear hb1 hb2
  obtain ⟨⟨x0, x1, x2⟩, xl⟩ := X.out
  go_wp2_with fail
  refine (release_keep _ _ _ _ _ (by omega) (by omega) good7).mono ?_
  rintro e w3 ⟨rfl, hb3⟩
  clear x0 x1 x2 xl
  have X3 := Lib.hid ((X.out.alloc _).below hb3)
  have Y3 := Lib.hid ((HasW.new w2 9 3 0).below hb3)
  have B3 := Lib.hid ((B2.out.alloc B2.out.size _).trans (hb3.mono (by have := B2.out.size; simp; omega)))
  clear hb3 X B2
  obtain ⟨⟨x0, x1, x2⟩, xl⟩ := X3.out
  obtain ⟨⟨y0, y1, y2⟩, yl⟩ := Y3.out
  go_wp2_with fail
  refine (text1 _).mono ?_
  rintro e w4 ⟨rfl, hb4⟩
  clear x0 x1 x2 xl y0 y1 y2 yl
  have Y4 := Lib.hid ((Y3.out.alloc _).below hb4)
  have Z4 := Lib.hid ((HasW.new w3 5 2 0).below hb4)
  have B4 := Lib.hid ((B3.out.alloc B3.out.size _).trans (hb4.mono (by have := B3.out.size; simp; omega)))
  clear hb4 X3 Y3 B3
  obtain ⟨⟨y0, y1, y2⟩, yl⟩ := Y4.out
  obtain ⟨⟨z0, z1, z2⟩, zl⟩ := Z4.out
  go_wp2_with fail
  refine (text2 _).mono ?_
  rintro e w5 ⟨rfl, hb5⟩
  clear z0 z1 z2 zl y0 y1 y2 yl
  have Z5 := Lib.hid (Z4.out.below hb5)
  have B5 := Lib.hid (B4.out.trans (hb5.mono B4.out.size))
  clear hb5 Y4 Z4 B4
  obtain ⟨⟨z0, z1, z2⟩, zl⟩ := Z5.out
  go_wp2_with fail
  refine (text3 _).mono ?_
  rintro e w6 ⟨rfl, hb6⟩
  clear z0 z1 z2 zl
  have B6 := Lib.hid (B5.out.trans (hb6.mono B5.out.size))
  clear hb6 B5 Z5
  go_wp2
  go_ret
  exact ⟨rfl, B6.out⟩
end Go.Proofs.YthcafhdokbejkaaDoor
