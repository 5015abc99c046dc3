/- desc.Field. -/
import Derived.Test.YtfegeahieajmkaaDoorDsPlain
import Derived.Deep.DeepCutAuto
namespace Go.Proofs.YtfegeahieajmkaaDoor
open Go.ChangeShapes Go.WideShapes Go.ChangeAt Go.RowKit Go.Maps
open Lay (startL checkI placeI mayI sizeI Ok starts checkI_ok)
/-- What Field answers. -/
def fieldI (T C B who a b : Int) : Int × Int := if checkI T C B ≠ 0 then (0, 1) else if a < 0 ∨ (placeI T C B who).2 ≤ a ∨ b < 0 ∨ 3 ≤ b then (0, 3) else ((placeI T C B who).1 + (2 + 3 * a + b), 0)
set_option maxRecDepth 100000 in
set_option maxHeartbeats 3200000 in
theorem field_any (T C B who a b : Int) (w : World) (hg : Lay.Gl w) (hw : who < 9223372036854775808) (hp : -1 ≤ (placeI T C B who).1 ∧ (placeI T C B who).1 ≤ 40000 ∧ (placeI T C B who).2 ≤ 100) : Calls Tryd.prog 35 #[.agg #[.int .i64 T, .int .i64 C, .int .i64 B], .int .i64 who, .int .i64 a, .int .i64 b] w fun e w' => e = .returned (.tuple #[.int .i64 (fieldI T C B who a b).1, .int .i64 (fieldI T C B who a b).2]) ∧ Below w.heap.size w w' := by
  have HG := Lib.hid hg
  have PL := Lib.hid (fun W h => Lay.place_any T C B who W h hw)
  have CK := Lib.hid (fun W h => Lay.check_any T C B W h)
  unfold Lay.LV at PL CK
  obtain ⟨r, hr⟩ : ∃ r, fieldI T C B who a b = r := ⟨_, rfl⟩
  rw [hr]
  have HR := Lib.hid hr
  unfold fieldI at HR
  clear hr hg
  obtain ⟨pa, hpa⟩ : ∃ x, (placeI T C B who).1 = x := ⟨_, rfl⟩
  obtain ⟨pm, hpm⟩ : ∃ x, (placeI T C B who).2 = x := ⟨_, rfl⟩
  obtain ⟨ch, hch⟩ : ∃ x, checkI T C B = x := ⟨_, rfl⟩
  rw [hpa, hpm] at PL HR hp
  rw [hch] at CK HR
  clear hpa hpm hch
  go_enter Tryd.func35, Tryd.ntmps35
  go_upto_region 1 with fail
  have BB := Lib.hid (below1 w (.cells #[.int .i64 T, .int .i64 C, .int .i64 B] 29))
  have LB := Lib.hid (Box.new w #[.int .i64 T, .int .i64 C, .int .i64 B] 29 rfl)
  replace HG := Lib.hid (HG.out.below BB.out)
  obtain ⟨W, hW⟩ : ∃ W, w.alloc (.cells #[.int .i64 T, .int .i64 C, .int .i64 B] 29) = W := ⟨_, rfl⟩
  obtain ⟨q, hq⟩ : ∃ q, w.heap.size = q := ⟨_, rfl⟩
  rw [hW] at BB LB HG
  rw [hq] at LB
  rw [hW, hq]
  clear hW hq
  have x0 := LB.out.cell 0
  have x1 := LB.out.cell 1
  have x2 := LB.out.cell 2
  simp at x0 x1 x2
  go_wp2_with fail
  refine (PL.out _ HG.out).mono ?_
  rintro e w1 ⟨rfl, hb⟩
  replace LB := Lib.hid (LB.out.below hb)
  replace HG := Lib.hid (HG.out.below hb)
  replace BB := Lib.hid (BB.out.trans (hb.mono BB.out.size))
  clear hb x0 x1 x2
  have x0 := LB.out.cell 0
  have x1 := LB.out.cell 1
  have x2 := LB.out.cell 2
  simp at x0 x1 x2
  go_wp2_with fail
  refine (CK.out _ HG.out).mono ?_
  rintro e w2 ⟨rfl, hb⟩
  replace LB := Lib.hid (LB.out.below hb)
  replace HG := Lib.hid (HG.out.below hb)
  replace BB := Lib.hid (BB.out.trans (hb.mono BB.out.size))
  clear hb x0 x1 x2 PL CK
  by_cases hc : ch = 0
  case neg =>
    have hc' : (ch != 0) = true := by rw [bne_iff_ne]; exact hc
    rw [if_pos hc] at HR
    go_wp2_with fail
    go_ret2
    exact ⟨by rw [← HR.out]; rfl, BB.out⟩
  subst hc
  rw [if_neg (by simp)] at HR
  by_cases h1 : a < 0
  · rw [if_pos (by omega)] at HR
    go_wp2_with fail
    go_ret2
    exact ⟨by rw [← HR.out]; rfl, BB.out⟩
  by_cases h2 : pm ≤ a
  · rw [if_pos (by omega)] at HR
    go_wp2_with fail
    go_ret2
    exact ⟨by rw [← HR.out]; rfl, BB.out⟩
  by_cases h3 : b < 0
  · rw [if_pos (by omega)] at HR
    go_wp2_with fail
    go_ret2
    exact ⟨by rw [← HR.out]; rfl, BB.out⟩
  by_cases h4 : 3 ≤ b
  · rw [if_pos (by omega)] at HR
    go_wp2_with fail
    go_ret2
    exact ⟨by rw [← HR.out]; rfl, BB.out⟩
  rw [if_neg (by omega)] at HR
  have q1 : IntKind.i64.wrap (3 * a) = 3 * a := IntWalk.i64_in _ (by omega)
  have q2 : IntKind.i64.wrap (2 + 3 * a) = 2 + 3 * a := IntWalk.i64_in _ (by omega)
  have q3 : IntKind.i64.wrap (2 + 3 * a + b) = 2 + 3 * a + b := IntWalk.i64_in _ (by omega)
  have q4 : IntKind.i64.wrap (pa + (2 + 3 * a + b)) = pa + (2 + 3 * a + b) := IntWalk.i64_in _ (by omega)
  go_wp2_with fail
  go_ret2
  exact ⟨by rw [← HR.out]; rfl, BB.out⟩
end Go.Proofs.YtfegeahieajmkaaDoor
