/- The example of the chapter on entries. -/
import Derived.Test.YtjphhfgomlchoaaDoorEnMerge
import Derived.Test.YtjphhfgomlchoaaDoorEnJoin
namespace Go.Proofs.YtjphhfgomlchoaaDoor
open Go.ChangeShapes Go.WideShapes Go.ChangeAt Go.RowKit Go.Maps
abbrev Good2 (w : World) (e : Ending) (w' : World) : Prop := e = .returned (.bool true) ∧ Below w.heap.size w w'
def exA : List En := [(3, (5, 2, 0), 7, true)]
def exB : List En := [(3, (7, 3, 0), 7, false), (1, (0, 0, 0), -1, true)]
def exR : List En := [(1, (0, 0, 0), -1, true), (3, (5, 2, 0), 7, true)]
theorem ex1 : mergeO insS exA exB = (exR, 0) := by decide +kernel
theorem ex2 : mergeO insS exB exA = ([], 14) := by decide +kernel
theorem ex3 : textL exR = [49, 58, 48, 61, 45, 49, 32, 51, 58, 53, 46, 50, 61, 55] := by decide +kernel
theorem ex4 : kindL exR = 3 := by decide +kernel
theorem okR : ∀ e ∈ exR, OkE e := by
  intro e he
  simp only [exR, List.mem_cons, List.not_mem_nil, or_false] at he
  rcases he with rfl | rfl
  · exact ⟨⟨by decide, by decide⟩, ⟨⟨by decide, by decide⟩, ⟨by decide, by decide⟩, ⟨by decide, by decide⟩⟩, ⟨by decide, by decide⟩⟩
  · exact ⟨⟨by decide, by decide⟩, ⟨⟨by decide, by decide⟩, ⟨by decide, by decide⟩, ⟨by decide, by decide⟩⟩, ⟨by decide, by decide⟩⟩
set_option maxRecDepth 100000 in
set_option maxHeartbeats 3200000 in
theorem awake_any (w : World) (ht : Tab w) : Calls Tryd.prog 10 #[] w (Good2 w) := by
  have TT := Lib.hid ht
  clear ht
  have BB := Lib.hid (below1 w (.cells #[.int .i64 3, .int .i64 5, .int .u32 2, .int .u32 0, .int .i64 7, .bool true] 48))
  have LA := Lib.hid (SK.ofBox (E := enE) (Box.new w #[.int .i64 3, .int .i64 5, .int .u32 2, .int .u32 0, .int .i64 7, .bool true] 48 rfl) (L := exA) (n := 1) (cap := 1) rfl rfl (Nat.le_refl _))
  go_enter Tryd.func10, Tryd.ntmps10
  go_upto_region 2 with fail
  generalize w.alloc (.cells #[.int .i64 3, .int .i64 5, .int .u32 2, .int .u32 0, .int .i64 7, .bool true] 48) = W1 at *
  obtain ⟨p, hp⟩ : ∃ p, w.heap.size = p := ⟨_, rfl⟩
  rw [hp] at LA ⊢
  go_upto_region 3 with fail
  have LB := Lib.hid (SK.ofBox (E := enE) (Box.new W1 #[.int .i64 3, .int .i64 7, .int .u32 3, .int .u32 0, .int .i64 7, .bool false, .int .i64 1, .int .i64 0, .int .u32 0, .int .u32 0, .int .i64 (-1), .bool true] 48 rfl) (L := exB) (n := 2) (cap := 2) rfl rfl (Nat.le_refl _))
  have RI := Lib.hid (below1 W1 (.cells #[.int .i64 3, .int .i64 7, .int .u32 3, .int .u32 0, .int .i64 7, .bool false, .int .i64 1, .int .i64 0, .int .u32 0, .int .u32 0, .int .i64 (-1), .bool true] 48))
  replace LA := Lib.hid (LA.out.below RI.out)
  replace BB := Lib.hid (BB.out.trans (RI.out.mono BB.out.size))
  clear RI
  generalize W1.alloc (.cells #[.int .i64 3, .int .i64 7, .int .u32 3, .int .u32 0, .int .i64 7, .bool false, .int .i64 1, .int .i64 0, .int .u32 0, .int .u32 0, .int .i64 (-1), .bool true] 48) = W2 at *
  generalize W1.heap.size = q at *
  go_wp2_with fail
  refine (merge_any insS 20 sort_small _ _ exA exB W2 LA.out LB.out (by decide) (by decide) (by decide)).mono ?_
  rintro e w3 ⟨x, rfl, hx, hb⟩
  rw [ex1] at hx ⊢
  simp only at hx ⊢
  obtain ⟨xa, xc, rfl, _⟩ := hx.form
  rw [show exR.length = 2 from rfl] at hx ⊢
  have XX := Lib.hid hx
  replace LA := Lib.hid (LA.out.below hb)
  replace LB := Lib.hid (LB.out.below hb)
  replace BB := Lib.hid (BB.out.trans (hb.mono BB.out.size))
  clear hx hb
  go_wp2_with fail
  refine (merge_any insS 20 sort_small _ _ exB exA w3 LB.out LA.out (by decide) (by decide) (by decide)).mono ?_
  rintro e w4 ⟨y, rfl, hy, hb⟩
  rw [ex2] at hy ⊢
  simp only at hy ⊢
  obtain ⟨ya, yc, rfl, _⟩ := hy.form
  replace XX := Lib.hid (XX.out.below hb)
  replace BB := Lib.hid (BB.out.trans (hb.mono BB.out.size))
  clear hy hb LA LB
  have TX := Lib.hid (textL_any _ exR w4 XX.out (by decide) okR (TT.out.below BB.out))
  rw [ex3] at TX
  go_wp2_with fail
  refine TX.out.mono ?_
  rintro e w5 ⟨rfl, hb⟩
  replace XX := Lib.hid (XX.out.below hb)
  replace BB := Lib.hid (BB.out.trans (hb.mono BB.out.size))
  clear hb TX
  go_wp2_with fail
  refine (kindL_any _ exR w5 XX.out (by decide)).mono ?_
  rintro e w6 ⟨rfl, hb⟩
  rw [ex4]
  replace BB := Lib.hid (BB.out.trans (hb.mono BB.out.size))
  clear hb
  go_wp2_with fail
  go_ret
  exact ⟨rfl, BB.out⟩
end Go.Proofs.YtjphhfgomlchoaaDoor
