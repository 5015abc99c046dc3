/- The example of the chapter on layouts, run by every statement: it returns true. -/
import Derived.Test.YtgndlknlahglcaaDoorLayFns2
namespace Go.Proofs.YtgndlknlahglcaaDoor
open Go.ChangeShapes Go.WideShapes Go.ChangeAt Go.RowKit

set_option maxRecDepth 100000 in
set_option maxHeartbeats 1600000 in
theorem awake_any (w : World) (hg : Gl w) : Calls Tryd.prog 9 #[] w fun e w' => e = .returned (.bool true) ∧ Below w.heap.size w w' := by
  have A1 : Hid (At 2 3 0 w.heap.size w ((w.alloc (.cells #[.int .i64 2, .int .i64 3, .int .i64 0] 23)).alloc (.cells #[.int .i64 2, .int .i64 3, .int .i64 1] 23))) := Lib.hid ((At.box hg rfl).below (below1 _ _))
  have A2 : Hid (At 2 3 1 (w.heap.size + 1) w ((w.alloc (.cells #[.int .i64 2, .int .i64 3, .int .i64 0] 23)).alloc (.cells #[.int .i64 2, .int .i64 3, .int .i64 1] 23))) := Lib.hid (by
    have h := At.box (T := 2) (C := 3) (B := 1) (w := w.alloc (.cells #[.int .i64 2, .int .i64 3, .int .i64 0] 23)) (hg.below (below1 _ _)) (n := w.heap.size + 1) (by simp)
    exact ⟨h.x, h.g, (below1 w _).trans (h.b.mono (by simp)), h.lt⟩)
  clear hg
  go_enter Tryd.func9, Tryd.ntmps9
  go_wp2_with fail
  refine (bits_any 2 3 1 0 _ A1.out.g).mono ?_
  rintro e w0 ⟨rfl, hb⟩
  rw [show bitsI 2 3 1 0 = (256, 1) by decide +kernel]
  replace A1 := Lib.hid (A1.out.below hb)
  replace A2 := Lib.hid (A2.out.below hb)
  clear hb
  obtain ⟨x0, x1, x2⟩ := A1.out.x
  obtain ⟨y0, y1, y2⟩ := A2.out.x
  go_wp2_with fail
  refine (check_any 2 3 0 _ A1.out.g).mono ?_
  rintro e w1 ⟨rfl, hb⟩
  rw [show checkI 2 3 0 = 0 by decide +kernel]
  replace A1 := Lib.hid (A1.out.below hb)
  replace A2 := Lib.hid (A2.out.below hb)
  clear hb x0 x1 x2 y0 y1 y2
  obtain ⟨x0, x1, x2⟩ := A1.out.x
  obtain ⟨y0, y1, y2⟩ := A2.out.x
  go_wp2_with fail
  refine (size_any 2 3 0 _ A1.out.g).mono ?_
  rintro e w2 ⟨rfl, hb⟩
  rw [show sizeI 2 3 0 = 256 by decide +kernel]
  replace A1 := Lib.hid (A1.out.below hb)
  replace A2 := Lib.hid (A2.out.below hb)
  clear hb x0 x1 x2 y0 y1 y2
  obtain ⟨x0, x1, x2⟩ := A1.out.x
  obtain ⟨y0, y1, y2⟩ := A2.out.x
  go_wp2_with fail
  refine (announce_any 2 3 0 2 _ A1.out.g (by omega)).mono ?_
  rintro e w3 ⟨rfl, hb⟩
  rw [show threadI 2 3 0 1 2 = 16 by decide +kernel]
  replace A1 := Lib.hid (A1.out.below hb)
  replace A2 := Lib.hid (A2.out.below hb)
  clear hb x0 x1 x2 y0 y1 y2
  obtain ⟨x0, x1, x2⟩ := A1.out.x
  obtain ⟨y0, y1, y2⟩ := A2.out.x
  go_wp2_with fail
  refine (record_any 2 3 0 1 _ A1.out.g (by omega)).mono ?_
  rintro e w4 ⟨rfl, hb⟩
  rw [show threadI 2 3 0 2 1 = 24 by decide +kernel]
  replace A1 := Lib.hid (A1.out.below hb)
  replace A2 := Lib.hid (A2.out.below hb)
  clear hb x0 x1 x2 y0 y1 y2
  obtain ⟨x0, x1, x2⟩ := A1.out.x
  obtain ⟨y0, y1, y2⟩ := A2.out.x
  go_wp2_with fail
  refine (cell_any 2 3 0 0 _ A1.out.g).mono ?_
  rintro e w5 ⟨rfl, hb⟩
  rw [show cellI 2 3 0 0 = 40 by decide +kernel]
  replace A1 := Lib.hid (A1.out.below hb)
  replace A2 := Lib.hid (A2.out.below hb)
  clear hb x0 x1 x2 y0 y1 y2
  obtain ⟨x0, x1, x2⟩ := A1.out.x
  obtain ⟨y0, y1, y2⟩ := A2.out.x
  go_wp2_with fail
  refine (slot_any 2 3 0 2 _ A1.out.g (by omega)).mono ?_
  rintro e w6 ⟨rfl, hb⟩
  rw [show threadI 2 3 0 4 2 = 152 by decide +kernel]
  replace A1 := Lib.hid (A1.out.below hb)
  replace A2 := Lib.hid (A2.out.below hb)
  clear hb x0 x1 x2 y0 y1 y2
  obtain ⟨x0, x1, x2⟩ := A1.out.x
  obtain ⟨y0, y1, y2⟩ := A2.out.x
  go_wp2_with fail
  refine (block_any 2 3 1 0 _ A1.out.g).mono ?_
  rintro e w7 ⟨rfl, hb⟩
  rw [show unitI 2 3 1 6 0 = 264 by decide +kernel]
  replace A1 := Lib.hid (A1.out.below hb)
  replace A2 := Lib.hid (A2.out.below hb)
  clear hb x0 x1 x2 y0 y1 y2
  obtain ⟨x0, x1, x2⟩ := A1.out.x
  obtain ⟨y0, y1, y2⟩ := A2.out.x
  go_wp2_with fail
  refine (size_any 2 3 1 _ A1.out.g).mono ?_
  rintro e w8 ⟨rfl, hb⟩
  rw [show sizeI 2 3 1 = 296 by decide +kernel]
  replace A1 := Lib.hid (A1.out.below hb)
  replace A2 := Lib.hid (A2.out.below hb)
  clear hb x0 x1 x2 y0 y1 y2
  obtain ⟨x0, x1, x2⟩ := A1.out.x
  obtain ⟨y0, y1, y2⟩ := A2.out.x
  go_wp2_with fail
  go_ret
  exact ⟨rfl, A1.out.b⟩
end Go.Proofs.YtgndlknlahglcaaDoor
