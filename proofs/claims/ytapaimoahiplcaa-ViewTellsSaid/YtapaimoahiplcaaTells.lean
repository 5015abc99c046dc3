/- ViewTells: the walk. -/
import Derived.Test.YtapaimoahiplcaaBool
namespace Go.Proofs.Ytapaimoahiplcaa
open Go.RowKit Go.Shelf Go.Maps

set_option maxRecDepth 100000 in
set_option maxHeartbeats 1600000 in
theorem tells (v : Value) (ops : List (Int × Int)) (x : Int) (w : World) (h : IsOps w v ops) (ho : OpsOk ops) (x0 : -9223372036854775808 ≤ x) (x1 : x < 9223372036854775808) :
    Calls Try.prog 3 #[v, .int .i64 x] w fun e w' => e = .returned (.bool true) ∧ Below w.heap.size w w' := by
  have H0 := Lib.hid h
  have OO := Lib.hid ho
  have BB := Lib.hid (Below.refl w.heap.size w)
  clear h ho
  go_enter Try.func3, Try.ntmps3
  go_wp2_with fail
  by_cases hg : 100 < ops.length
  · skip
    refine (great_is (r := true) (by simp; omega) H0.out).mono ?_
    rintro e wn ⟨rfl, rfl⟩
    go_wp2_with fail
    refine (awake_any _).mono ?_
    rintro e wn ⟨rfl, hb⟩
    have H0' := Lib.hid (H0.out.below (hb))
    have BB' := Lib.hid (BB.out.trans ((hb).mono BB.out.size))
    clear H0
    have H0 := H0'
    clear H0'
    clear BB
    have BB := BB'
    clear BB'
    clear hb
    go_wp2
    go_ret
    exact ⟨rfl, BB.out⟩
  · skip
    refine (great_is (r := false) (by simp; omega) H0.out).mono ?_
    rintro e wn ⟨rfl, rfl⟩
    go_wp2_with fail
    have OM := Lib.hid (ok_made OO.out)
    have hlm := ok_length OM.out
    refine (made_any _ _ _ H0.out (by omega) OO.out).mono ?_
    rintro e w1 ⟨p1, m1, rfl, va, qa, hb⟩
    have H0' := Lib.hid (H0.out.below (hb))
    have BB' := Lib.hid (BB.out.trans ((hb).mono BB.out.size))
    clear H0
    have H0 := H0'
    clear H0'
    clear BB
    have BB := BB'
    clear BB'
    clear hb
    have H0' := Lib.hid (H0.out.below (below_new w1 (.cells #[.map p1] 28)))
    have BB' := Lib.hid (BB.out.trans ((below_new w1 (.cells #[.map p1] 28)).mono BB.out.size))
    clear H0
    have H0 := H0'
    clear H0'
    clear BB
    have BB := BB'
    clear BB'
    have A1 := Lib.hid (Bx.new va)
    have P1 := Lib.hid (IsP.below qa (below_new w1 (.cells #[.map p1] 28)))
    clear va qa
    go_wp2_with fail
    generalize w1.alloc (.cells #[.map p1] 28) = w1' at *
    generalize w1.heap.size = b1 at *
    refine (is_any _ _ _ _ A1.out.v P1.out).mono ?_
    rintro e wn ⟨rfl, hb⟩
    have H0' := Lib.hid (H0.out.below (hb))
    have A1' := Lib.hid (A1.out.below (hb))
    have P1' := Lib.hid (P1.out.below (hb))
    have BB' := Lib.hid (BB.out.trans ((hb).mono BB.out.size))
    clear H0
    have H0 := H0'
    clear H0'
    clear A1
    have A1 := A1'
    clear A1'
    clear P1
    have P1 := P1'
    clear P1'
    clear BB
    have BB := BB'
    clear BB'
    clear hb
    have kc0 := A1.out.cell
    go_wp2_with fail
    clear kc0
    refine (at_anyB _ _ _ _ x0 x1 A1.out.v).mono ?_
    rintro e wn ⟨rfl, hb⟩
    have H0' := Lib.hid (H0.out.below (hb))
    have A1' := Lib.hid (A1.out.below (hb))
    have P1' := Lib.hid (P1.out.below (hb))
    have BB' := Lib.hid (BB.out.trans ((hb).mono BB.out.size))
    clear H0
    have H0 := H0'
    clear H0'
    clear A1
    have A1 := A1'
    clear A1'
    clear P1
    have P1 := P1'
    clear P1'
    clear BB
    have BB := BB'
    clear BB'
    clear hb
    have kc0 := A1.out.cell
    go_wp2_with fail
    clear kc0
    refine (rat_any _ _ _ _ (by omega) P1.out).mono ?_
    rintro e wn ⟨rfl, rfl⟩
    go_wp2_with fail
    refine (awake_any _).mono ?_
    rintro e wn ⟨rfl, hb⟩
    have H0' := Lib.hid (H0.out.below (hb))
    have A1' := Lib.hid (A1.out.below (hb))
    have P1' := Lib.hid (P1.out.below (hb))
    have BB' := Lib.hid (BB.out.trans ((hb).mono BB.out.size))
    clear H0
    have H0 := H0'
    clear H0'
    clear A1
    have A1 := A1'
    clear A1'
    clear P1
    have P1 := P1'
    clear P1'
    clear BB
    have BB := BB'
    clear BB'
    clear hb
    go_wp2
    go_ret
    exact ⟨rfl, BB.out⟩
end Go.Proofs.Ytapaimoahiplcaa
