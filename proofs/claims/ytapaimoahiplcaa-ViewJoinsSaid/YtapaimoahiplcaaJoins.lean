/- ViewJoins: the walk. -/
import Derived.Test.YtapaimoahiplcaaMore
namespace Go.Proofs.Ytapaimoahiplcaa
open Go.RowKit Go.Shelf Go.Maps

set_option maxRecDepth 100000 in
set_option maxHeartbeats 1600000 in
theorem joins (v0 : Value) (ops0 : List (Int × Int)) (v1 : Value) (ops1 : List (Int × Int)) (w : World) (h0 : IsOps w v0 ops0) (o0 : OpsOk ops0) (h1 : IsOps w v1 ops1) (o1 : OpsOk ops1) :
    Calls Try.prog 5 #[v0, v1] w fun e w' => e = .returned (.bool true) ∧ Below w.heap.size w w' := by
  have H0 := Lib.hid h0
  have H1 := Lib.hid h1
  have O0 := Lib.hid o0
  have O1 := Lib.hid o1
  have BB := Lib.hid (Below.refl w.heap.size w)
  clear h0 h1 o0 o1
  go_enter Try.func5, Try.ntmps5
  go_wp2_with fail
  by_cases hg : 100 < ops0.length
  · skip
    refine (great_is (r := true) (by simp; omega) H0.out).mono ?_
    rintro e wn ⟨rfl, rfl⟩
    go_wp2_with fail
    refine (awake_any _).mono ?_
    rintro e wn ⟨rfl, hb⟩
    have H0' := Lib.hid (H0.out.below (hb))
    have H1' := Lib.hid (H1.out.below (hb))
    have BB' := Lib.hid (BB.out.trans ((hb).mono BB.out.size))
    clear H0
    have H0 := H0'
    clear H0'
    clear H1
    have H1 := H1'
    clear H1'
    clear BB
    have BB := BB'
    clear BB'
    clear hb
    go_wp2
    go_ret
    exact ⟨rfl, BB.out⟩
  · skip
    refine (great_is (r := false) (by simp; omega) H0.out).mono ?_
    rintro e wn ⟨rfl, rfl⟩
    go_wp2_with fail
    by_cases hg1 : 100 < ops1.length
    · skip
      refine (great_is (r := true) (by simp; omega) H1.out).mono ?_
      rintro e wn ⟨rfl, rfl⟩
      go_wp2_with fail
      refine (awake_any _).mono ?_
      rintro e wn ⟨rfl, hb⟩
      have H0' := Lib.hid (H0.out.below (hb))
      have H1' := Lib.hid (H1.out.below (hb))
      have BB' := Lib.hid (BB.out.trans ((hb).mono BB.out.size))
      clear H0
      have H0 := H0'
      clear H0'
      clear H1
      have H1 := H1'
      clear H1'
      clear BB
      have BB := BB'
      clear BB'
      clear hb
      go_wp2
      go_ret
      exact ⟨rfl, BB.out⟩
    · skip
      refine (great_is (r := false) (by simp; omega) H1.out).mono ?_
      rintro e wn ⟨rfl, rfl⟩
      go_wp2_with fail
      have M0 := Lib.hid (ok_made O0.out)
      have M1 := Lib.hid (ok_made O1.out)
      refine (made_any _ _ _ H0.out (by omega) O0.out).mono ?_
      rintro e w1 ⟨p1, m1, rfl, va, qa, hb⟩
      have H0' := Lib.hid (H0.out.below (hb))
      have H1' := Lib.hid (H1.out.below (hb))
      have BB' := Lib.hid (BB.out.trans ((hb).mono BB.out.size))
      clear H0
      have H0 := H0'
      clear H0'
      clear H1
      have H1 := H1'
      clear H1'
      clear BB
      have BB := BB'
      clear BB'
      clear hb
      have H0' := Lib.hid (H0.out.below (below_new w1 (.cells #[.map p1] 28)))
      have H1' := Lib.hid (H1.out.below (below_new w1 (.cells #[.map p1] 28)))
      have BB' := Lib.hid (BB.out.trans ((below_new w1 (.cells #[.map p1] 28)).mono BB.out.size))
      clear H0
      have H0 := H0'
      clear H0'
      clear H1
      have H1 := H1'
      clear H1'
      clear BB
      have BB := BB'
      clear BB'
      have A1 := Lib.hid (Bx.new va)
      have P1 := Lib.hid (IsP.below qa (below_new w1 (.cells #[.map p1] 28)))
      clear va qa
      go_wp2_with fail
      generalize w1.alloc (.cells #[.map p1] 28) = w1' at *
      generalize w1.heap.size = b1 at *
      refine (made_any _ _ _ H1.out (by omega) O1.out).mono ?_
      rintro e w2 ⟨p2, m2, rfl, va, qa, hb⟩
      have H0' := Lib.hid (H0.out.below (hb))
      have H1' := Lib.hid (H1.out.below (hb))
      have A1' := Lib.hid (A1.out.below (hb))
      have P1' := Lib.hid (P1.out.below (hb))
      have BB' := Lib.hid (BB.out.trans ((hb).mono BB.out.size))
      clear H0
      have H0 := H0'
      clear H0'
      clear H1
      have H1 := H1'
      clear H1'
      clear A1
      have A1 := A1'
      clear A1'
      clear P1
      have P1 := P1'
      clear P1'
      clear BB
      have BB := BB'
      clear BB'
      clear hb
      have H0' := Lib.hid (H0.out.below (below_new w2 (.cells #[.map p2] 28)))
      have H1' := Lib.hid (H1.out.below (below_new w2 (.cells #[.map p2] 28)))
      have A1' := Lib.hid (A1.out.below (below_new w2 (.cells #[.map p2] 28)))
      have P1' := Lib.hid (P1.out.below (below_new w2 (.cells #[.map p2] 28)))
      have BB' := Lib.hid (BB.out.trans ((below_new w2 (.cells #[.map p2] 28)).mono BB.out.size))
      clear H0
      have H0 := H0'
      clear H0'
      clear H1
      have H1 := H1'
      clear H1'
      clear A1
      have A1 := A1'
      clear A1'
      clear P1
      have P1 := P1'
      clear P1'
      clear BB
      have BB := BB'
      clear BB'
      have A2 := Lib.hid (Bx.new va)
      have P2 := Lib.hid (IsP.below qa (below_new w2 (.cells #[.map p2] 28)))
      clear va qa
      go_wp2_with fail
      generalize w2.alloc (.cells #[.map p2] 28) = w2' at *
      generalize w2.heap.size = b2 at *
      obtain ⟨x, hx⟩ : ∃ x, belowL (madeL ops0) (madeL ops1) = x := ⟨_, rfl⟩
      obtain ⟨y, hy⟩ : ∃ y, belowL (madeL ops1) (madeL ops0) = y := ⟨_, rfl⟩
      have hs : ∀ r, (x && y) = r → decide (madeL ops0 = madeL ops1) = r := fun r hr => by rw [same_dec M0.out M1.out, hx, hy, hr]
      have HX := Lib.hid hx
      have HY := Lib.hid hy
      have HS := Lib.hid hs
      clear hx hy hs
      cases x <;> cases y
      all_goals
        refine (rbelow_is HX.out M0.out M1.out P1.out P2.out).mono ?_
        rintro e wn ⟨rfl, hb⟩
        have H0' := Lib.hid (H0.out.below (hb))
        have H1' := Lib.hid (H1.out.below (hb))
        have A1' := Lib.hid (A1.out.below (hb))
        have P1' := Lib.hid (P1.out.below (hb))
        have A2' := Lib.hid (A2.out.below (hb))
        have P2' := Lib.hid (P2.out.below (hb))
        have BB' := Lib.hid (BB.out.trans ((hb).mono BB.out.size))
        clear H0
        have H0 := H0'
        clear H0'
        clear H1
        have H1 := H1'
        clear H1'
        clear A1
        have A1 := A1'
        clear A1'
        clear P1
        have P1 := P1'
        clear P1'
        clear A2
        have A2 := A2'
        clear A2'
        clear P2
        have P2 := P2'
        clear P2'
        clear BB
        have BB := BB'
        clear BB'
        clear hb
        go_wp2_with fail
        refine (rbelow_is HY.out M1.out M0.out P2.out P1.out).mono ?_
        rintro e wn ⟨rfl, hb⟩
        have H0' := Lib.hid (H0.out.below (hb))
        have H1' := Lib.hid (H1.out.below (hb))
        have A1' := Lib.hid (A1.out.below (hb))
        have P1' := Lib.hid (P1.out.below (hb))
        have A2' := Lib.hid (A2.out.below (hb))
        have P2' := Lib.hid (P2.out.below (hb))
        have BB' := Lib.hid (BB.out.trans ((hb).mono BB.out.size))
        clear H0
        have H0 := H0'
        clear H0'
        clear H1
        have H1 := H1'
        clear H1'
        clear A1
        have A1 := A1'
        clear A1'
        clear P1
        have P1 := P1'
        clear P1'
        clear A2
        have A2 := A2'
        clear A2'
        clear P2
        have P2 := P2'
        clear P2'
        clear BB
        have BB := BB'
        clear BB'
        clear hb
        have kc0 := A1.out.cell
        have kc1 := A2.out.cell
        go_wp2_with fail
        clear kc0
        clear kc1
        refine (join_any _ _ _ _ _ A1.out.v A2.out.v).mono ?_
        rintro e w3 ⟨b3, h3, rfl, vj, hb⟩
        have H0' := Lib.hid (H0.out.below (hb))
        have H1' := Lib.hid (H1.out.below (hb))
        have A1' := Lib.hid (A1.out.below (hb))
        have P1' := Lib.hid (P1.out.below (hb))
        have A2' := Lib.hid (A2.out.below (hb))
        have P2' := Lib.hid (P2.out.below (hb))
        have BB' := Lib.hid (BB.out.trans ((hb).mono BB.out.size))
        clear H0
        have H0 := H0'
        clear H0'
        clear H1
        have H1 := H1'
        clear H1'
        clear A1
        have A1 := A1'
        clear A1'
        clear P1
        have P1 := P1'
        clear P1'
        clear A2
        have A2 := A2'
        clear A2'
        clear P2
        have P2 := P2'
        clear P2'
        clear BB
        have BB := BB'
        clear BB'
        clear hb
        have V3 := Lib.hid vj
        clear vj h3
        go_wp2_with fail
        refine (rjoin_any _ _ _ _ _ M0.out M1.out P1.out P2.out).mono ?_
        rintro e w4 ⟨m4, rfl, pj, hb⟩
        have H0' := Lib.hid (H0.out.below (hb))
        have H1' := Lib.hid (H1.out.below (hb))
        have A1' := Lib.hid (A1.out.below (hb))
        have P1' := Lib.hid (P1.out.below (hb))
        have A2' := Lib.hid (A2.out.below (hb))
        have P2' := Lib.hid (P2.out.below (hb))
        have V3' := Lib.hid (V3.out.below (hb))
        have BB' := Lib.hid (BB.out.trans ((hb).mono BB.out.size))
        clear H0
        have H0 := H0'
        clear H0'
        clear H1
        have H1 := H1'
        clear H1'
        clear A1
        have A1 := A1'
        clear A1'
        clear P1
        have P1 := P1'
        clear P1'
        clear A2
        have A2 := A2'
        clear A2'
        clear P2
        have P2 := P2'
        clear P2'
        clear V3
        have V3 := V3'
        clear V3'
        clear BB
        have BB := BB'
        clear BB'
        clear hb
        have P3 := Lib.hid pj
        clear pj
        go_wp2_with fail
        refine (is_any _ _ _ _ V3.out P3.out).mono ?_
        rintro e wn ⟨rfl, hb⟩
        have H0' := Lib.hid (H0.out.below (hb))
        have H1' := Lib.hid (H1.out.below (hb))
        have A1' := Lib.hid (A1.out.below (hb))
        have P1' := Lib.hid (P1.out.below (hb))
        have A2' := Lib.hid (A2.out.below (hb))
        have P2' := Lib.hid (P2.out.below (hb))
        have V3' := Lib.hid (V3.out.below (hb))
        have P3' := Lib.hid (P3.out.below (hb))
        have BB' := Lib.hid (BB.out.trans ((hb).mono BB.out.size))
        clear H0
        have H0 := H0'
        clear H0'
        clear H1
        have H1 := H1'
        clear H1'
        clear A1
        have A1 := A1'
        clear A1'
        clear P1
        have P1 := P1'
        clear P1'
        clear A2
        have A2 := A2'
        clear A2'
        clear P2
        have P2 := P2'
        clear P2'
        clear V3
        have V3 := V3'
        clear V3'
        clear P3
        have P3 := P3'
        clear P3'
        clear BB
        have BB := BB'
        clear BB'
        clear hb
        have kc0 := A1.out.cell
        go_wp2_with fail
        clear kc0
        refine (is_any _ _ _ _ A1.out.v P1.out).mono ?_
        rintro e wn ⟨rfl, hb⟩
        have H0' := Lib.hid (H0.out.below (hb))
        have H1' := Lib.hid (H1.out.below (hb))
        have A1' := Lib.hid (A1.out.below (hb))
        have P1' := Lib.hid (P1.out.below (hb))
        have A2' := Lib.hid (A2.out.below (hb))
        have P2' := Lib.hid (P2.out.below (hb))
        have V3' := Lib.hid (V3.out.below (hb))
        have P3' := Lib.hid (P3.out.below (hb))
        have BB' := Lib.hid (BB.out.trans ((hb).mono BB.out.size))
        clear H0
        have H0 := H0'
        clear H0'
        clear H1
        have H1 := H1'
        clear H1'
        clear A1
        have A1 := A1'
        clear A1'
        clear P1
        have P1 := P1'
        clear P1'
        clear A2
        have A2 := A2'
        clear A2'
        clear P2
        have P2 := P2'
        clear P2'
        clear V3
        have V3 := V3'
        clear V3'
        clear P3
        have P3 := P3'
        clear P3'
        clear BB
        have BB := BB'
        clear BB'
        clear hb
        have kc0 := A2.out.cell
        go_wp2_with fail
        clear kc0
        refine (is_any _ _ _ _ A2.out.v P2.out).mono ?_
        rintro e wn ⟨rfl, hb⟩
        have H0' := Lib.hid (H0.out.below (hb))
        have H1' := Lib.hid (H1.out.below (hb))
        have A1' := Lib.hid (A1.out.below (hb))
        have P1' := Lib.hid (P1.out.below (hb))
        have A2' := Lib.hid (A2.out.below (hb))
        have P2' := Lib.hid (P2.out.below (hb))
        have V3' := Lib.hid (V3.out.below (hb))
        have P3' := Lib.hid (P3.out.below (hb))
        have BB' := Lib.hid (BB.out.trans ((hb).mono BB.out.size))
        clear H0
        have H0 := H0'
        clear H0'
        clear H1
        have H1 := H1'
        clear H1'
        clear A1
        have A1 := A1'
        clear A1'
        clear P1
        have P1 := P1'
        clear P1'
        clear A2
        have A2 := A2'
        clear A2'
        clear P2
        have P2 := P2'
        clear P2'
        clear V3
        have V3 := V3'
        clear V3'
        clear P3
        have P3 := P3'
        clear P3'
        clear BB
        have BB := BB'
        clear BB'
        clear hb
        have kc0 := A1.out.cell
        have kc1 := A2.out.cell
        go_wp2_with fail
        clear kc0
        clear kc1
        refine (below_is HX.out A1.out.v A2.out.v).mono ?_
        rintro e wn ⟨rfl, hb⟩
        have H0' := Lib.hid (H0.out.below (hb))
        have H1' := Lib.hid (H1.out.below (hb))
        have A1' := Lib.hid (A1.out.below (hb))
        have P1' := Lib.hid (P1.out.below (hb))
        have A2' := Lib.hid (A2.out.below (hb))
        have P2' := Lib.hid (P2.out.below (hb))
        have V3' := Lib.hid (V3.out.below (hb))
        have P3' := Lib.hid (P3.out.below (hb))
        have BB' := Lib.hid (BB.out.trans ((hb).mono BB.out.size))
        clear H0
        have H0 := H0'
        clear H0'
        clear H1
        have H1 := H1'
        clear H1'
        clear A1
        have A1 := A1'
        clear A1'
        clear P1
        have P1 := P1'
        clear P1'
        clear A2
        have A2 := A2'
        clear A2'
        clear P2
        have P2 := P2'
        clear P2'
        clear V3
        have V3 := V3'
        clear V3'
        clear P3
        have P3 := P3'
        clear P3'
        clear BB
        have BB := BB'
        clear BB'
        clear hb
        have kc0 := A1.out.cell
        have kc1 := A2.out.cell
        go_wp2_with fail
        clear kc0
        clear kc1
        refine (below_is HY.out A2.out.v A1.out.v).mono ?_
        rintro e wn ⟨rfl, hb⟩
        have H0' := Lib.hid (H0.out.below (hb))
        have H1' := Lib.hid (H1.out.below (hb))
        have A1' := Lib.hid (A1.out.below (hb))
        have P1' := Lib.hid (P1.out.below (hb))
        have A2' := Lib.hid (A2.out.below (hb))
        have P2' := Lib.hid (P2.out.below (hb))
        have V3' := Lib.hid (V3.out.below (hb))
        have P3' := Lib.hid (P3.out.below (hb))
        have BB' := Lib.hid (BB.out.trans ((hb).mono BB.out.size))
        clear H0
        have H0 := H0'
        clear H0'
        clear H1
        have H1 := H1'
        clear H1'
        clear A1
        have A1 := A1'
        clear A1'
        clear P1
        have P1 := P1'
        clear P1'
        clear A2
        have A2 := A2'
        clear A2'
        clear P2
        have P2 := P2'
        clear P2'
        clear V3
        have V3 := V3'
        clear V3'
        clear P3
        have P3 := P3'
        clear P3'
        clear BB
        have BB := BB'
        clear BB'
        clear hb
        have kc0 := A1.out.cell
        have kc1 := A2.out.cell
        go_wp2_with fail
        clear kc0
        clear kc1
        first
          | (refine (same_is (HS.out true rfl) A1.out.v A2.out.v).mono ?_)
          | (refine (same_is (HS.out false rfl) A1.out.v A2.out.v).mono ?_)
        rintro e wn ⟨rfl, hb⟩
        have H0' := Lib.hid (H0.out.below (hb))
        have H1' := Lib.hid (H1.out.below (hb))
        have A1' := Lib.hid (A1.out.below (hb))
        have P1' := Lib.hid (P1.out.below (hb))
        have A2' := Lib.hid (A2.out.below (hb))
        have P2' := Lib.hid (P2.out.below (hb))
        have V3' := Lib.hid (V3.out.below (hb))
        have P3' := Lib.hid (P3.out.below (hb))
        have BB' := Lib.hid (BB.out.trans ((hb).mono BB.out.size))
        clear H0
        have H0 := H0'
        clear H0'
        clear H1
        have H1 := H1'
        clear H1'
        clear A1
        have A1 := A1'
        clear A1'
        clear P1
        have P1 := P1'
        clear P1'
        clear A2
        have A2 := A2'
        clear A2'
        clear P2
        have P2 := P2'
        clear P2'
        clear V3
        have V3 := V3'
        clear V3'
        clear P3
        have P3 := P3'
        clear P3'
        clear BB
        have BB := BB'
        clear BB'
        clear hb
        go_wp2_with fail
        refine (awake_any _).mono ?_
        rintro e wn ⟨rfl, hb⟩
        have H0' := Lib.hid (H0.out.below (hb))
        have H1' := Lib.hid (H1.out.below (hb))
        have A1' := Lib.hid (A1.out.below (hb))
        have P1' := Lib.hid (P1.out.below (hb))
        have A2' := Lib.hid (A2.out.below (hb))
        have P2' := Lib.hid (P2.out.below (hb))
        have V3' := Lib.hid (V3.out.below (hb))
        have P3' := Lib.hid (P3.out.below (hb))
        have BB' := Lib.hid (BB.out.trans ((hb).mono BB.out.size))
        clear H0
        have H0 := H0'
        clear H0'
        clear H1
        have H1 := H1'
        clear H1'
        clear A1
        have A1 := A1'
        clear A1'
        clear P1
        have P1 := P1'
        clear P1'
        clear A2
        have A2 := A2'
        clear A2'
        clear P2
        have P2 := P2'
        clear P2'
        clear V3
        have V3 := V3'
        clear V3'
        clear P3
        have P3 := P3'
        clear P3'
        clear BB
        have BB := BB'
        clear BB'
        clear hb
        go_wp2
        go_ret
        exact ⟨rfl, BB.out⟩
end Go.Proofs.Ytapaimoahiplcaa
