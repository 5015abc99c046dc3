/- The example of the chapter; Few. -/
import Derived.Test.YtmophafgmimhcaaMdRSwap
namespace Go.Proofs.Ytmophafgmimhcaa
open Go.ChangeShapes Go.WideShapes Go.ChangeAt Go.RowKit Go.Maps
abbrev Good (w : World) (e : Ending) (w' : World) : Prop := e = .returned (.bool true) ∧ Below w.heap.size w w'
def exM : List Wd := [(5, 0, 0), (6, 0, 0), (7, 0, 0)]
def exL : List En := [(0, (5, 0, 0), 1, true), (2, (7, 0, 0), 7, false)]
def exR : List Wd := [(1, 1, 0), (6, 0, 0), (7, 0, 0)]
theorem ex1 : swp exM exL = (exR, true, 0) := by decide +kernel
theorem ex2 : swp exR exL = (exR, false, 0) := by decide +kernel
theorem exB : bare exM = exM := rfl
set_option maxRecDepth 100000 in
set_option maxHeartbeats 3200000 in
theorem awake_any (w : World) : Calls Try.prog 9 #[] w (Good w) := by
  have BM := Lib.hid (SK.ofBox (E := wdE) (Box.new w #[.int .i64 5, .int .u32 0, .int .u32 0, .int .i64 6, .int .u32 0, .int .u32 0, .int .i64 7, .int .u32 0, .int .u32 0] 43 rfl) (L := exM) (n := 3) (cap := 3) rfl rfl (Nat.le_refl _))
  have BB := Lib.hid (below1 w (.cells #[.int .i64 5, .int .u32 0, .int .u32 0, .int .i64 6, .int .u32 0, .int .u32 0, .int .i64 7, .int .u32 0, .int .u32 0] 43))
  go_enter Try.func9, Try.ntmps9
  go_wp2_with fail
  refine (new_any _ exM _ BM.out (by decide)).mono ?_
  rintro e w1 ⟨u, rfl, hu, hb⟩
  rw [exB] at hu
  obtain ⟨ua, uc, rfl, _⟩ := hu.form
  rw [show exM.length = 3 from rfl] at hu ⊢
  have U := Lib.hid hu
  replace BB := Lib.hid (BB.out.trans (hb.mono BB.out.size))
  clear hu hb BM
  go_upto_region 2 with fail
  have B1 := Lib.hid (Box.new w1 #[.slice ua 3 uc] 27 rfl)
  replace U := Lib.hid (U.out.below (below1 w1 (.cells #[.slice ua 3 uc] 27)))
  replace BB := Lib.hid (BB.out.alloc BB.out.size (.cells #[.slice ua 3 uc] 27))
  generalize w1.alloc (.cells #[.slice ua 3 uc] 27) = W2 at *
  generalize w1.heap.size = q at *
  go_upto_region 3 with fail
  have LL := Lib.hid (SK.ofBox (E := enE) (Box.new W2 #[.int .i64 0, .int .i64 5, .int .u32 0, .int .u32 0, .int .i64 1, .bool true, .int .i64 2, .int .i64 7, .int .u32 0, .int .u32 0, .int .i64 7, .bool false] 50 rfl) (L := exL) (n := 2) (cap := 2) rfl rfl (Nat.le_refl _))
  replace B1 := Lib.hid (B1.out.alloc (.cells #[.int .i64 0, .int .i64 5, .int .u32 0, .int .u32 0, .int .i64 1, .bool true, .int .i64 2, .int .i64 7, .int .u32 0, .int .u32 0, .int .i64 7, .bool false] 50))
  replace U := Lib.hid (U.out.below (below1 W2 (.cells #[.int .i64 0, .int .i64 5, .int .u32 0, .int .u32 0, .int .i64 1, .bool true, .int .i64 2, .int .i64 7, .int .u32 0, .int .u32 0, .int .i64 7, .bool false] 50)))
  replace BB := Lib.hid (BB.out.alloc BB.out.size (.cells #[.int .i64 0, .int .i64 5, .int .u32 0, .int .u32 0, .int .i64 1, .bool true, .int .i64 2, .int .i64 7, .int .u32 0, .int .u32 0, .int .i64 7, .bool false] 50))
  generalize W2.alloc (.cells #[.int .i64 0, .int .i64 5, .int .u32 0, .int .u32 0, .int .i64 1, .bool true, .int .i64 2, .int .i64 7, .int .u32 0, .int .u32 0, .int .i64 7, .bool false] 50) = W3 at *
  generalize W2.heap.size = q2 at *
  have z0 := B1.out.cell 0
  simp at z0
  go_wp2_with fail
  refine (swap_any _ exM _ exL W3 U.out LL.out (by decide) (by decide)).mono ?_
  rintro e w4 ⟨v, rfl, hv, hb⟩
  rw [ex1] at hv ⊢
  obtain ⟨va, vc, rfl, _⟩ := hv.form
  simp only at hv ⊢
  rw [show exR.length = 3 from rfl] at hv ⊢
  have V := Lib.hid hv
  replace B1 := Lib.hid (B1.out.below hb)
  replace LL := Lib.hid (LL.out.below hb)
  replace BB := Lib.hid (BB.out.trans (hb.mono BB.out.size))
  clear hv hb z0 U
  go_upto_region 4 with fail
  have B3 := Lib.hid (Box.new w4 #[.slice va 3 vc] 27 rfl)
  replace LL := Lib.hid (LL.out.below (below1 w4 (.cells #[.slice va 3 vc] 27)))
  replace V := Lib.hid (V.out.below (below1 w4 (.cells #[.slice va 3 vc] 27)))
  replace BB := Lib.hid (BB.out.alloc BB.out.size (.cells #[.slice va 3 vc] 27))
  generalize w4.alloc (.cells #[.slice va 3 vc] 27) = W5 at *
  generalize w4.heap.size = q4 at *
  clear B1
  have z0 := B3.out.cell 0
  simp at z0
  go_wp2_with fail
  refine (swap_any _ exR _ exL W5 V.out LL.out (by decide) (by decide)).mono ?_
  rintro e w6 ⟨x, rfl, hx, hb⟩
  rw [ex2] at hx ⊢
  obtain ⟨xa, xc, rfl, _⟩ := hx.form
  simp only at hx ⊢
  replace B3 := Lib.hid (B3.out.below hb)
  replace V := Lib.hid (V.out.below hb)
  replace BB := Lib.hid (BB.out.trans (hb.mono BB.out.size))
  clear hx hb z0 LL
  replace B3 := Lib.hid (B3.out.alloc (.cells #[.slice xa exR.length xc] 27))
  replace V := Lib.hid (V.out.below (below1 w6 (.cells #[.slice xa exR.length xc] 27)))
  replace BB := Lib.hid (BB.out.alloc BB.out.size (.cells #[.slice xa exR.length xc] 27))
  go_upto_region 5 with fail
  generalize w6.alloc (.cells #[.slice xa exR.length xc] 27) = W7 at *
  generalize w6.heap.size = q6 at *
  have z0 := B3.out.cell 0
  have h0 := B3.out.lt
  simp at z0
  go_wp2_with fail
  have LR := Lib.hid (SK.ofBox (E := wdE) (Box.new W7 #[.int .i64 1, .int .u32 1, .int .u32 0, .int .i64 6, .int .u32 0, .int .u32 0, .int .i64 7, .int .u32 0, .int .u32 0] 43 rfl) (L := exR) (n := 3) (cap := 3) rfl rfl (Nat.le_refl _))
  have RI := Lib.hid (below1 W7 (.cells #[.int .i64 1, .int .u32 1, .int .u32 0, .int .i64 6, .int .u32 0, .int .u32 0, .int .i64 7, .int .u32 0, .int .u32 0] 43))
  refine (is_any _ exR _ exR _ (V.out.below RI.out) LR.out (by decide)).mono ?_
  rintro e w8 ⟨rfl, hb⟩
  rw [decide_eq_true (Eq.refl exR)]
  replace BB := Lib.hid ((BB.out.trans (RI.out.mono BB.out.size)).trans (hb.mono (Nat.le_trans BB.out.size RI.out.size)))
  clear hb
  go_wp2_with fail
  go_ret
  exact ⟨rfl, BB.out⟩
end Go.Proofs.Ytmophafgmimhcaa
