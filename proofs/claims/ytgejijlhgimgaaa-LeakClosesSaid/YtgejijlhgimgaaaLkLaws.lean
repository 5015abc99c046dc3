/- The walks through LeakReaches, LeakTells and LeakJoins. -/
import Derived.Test.YtgejijlhgimgaaaLkAwake
import Derived.Test.YtgejijlhgimgaaaLkRReach
namespace Go.Proofs.Ytgejijlhgimgaaa
open Go.ChangeShapes Go.WideShapes Go.ChangeAt Go.RowKit Go.Maps
theorem IS.form {w : World} {v : Value} {L : List Int} (h : IS w v L) : ∃ a cap, v = .slice a L.length cap := by
  obtain ⟨a, cap, e, _⟩ := h; exact ⟨a, cap, e⟩
theorem NS.form {w : World} {v : Value} {L : List (List Int)} (h : NS w v L) : ∃ a cap, v = .slice a L.length cap := by
  obtain ⟨a, cap, e, _⟩ := h; exact ⟨a, cap, e⟩
set_option maxRecDepth 100000 in
set_option maxHeartbeats 1600000 in
theorem reaches_walk (v u : Value) (roots : List Int) (N : List (List Int)) (w : World) (hv : IS w v roots) (hu : NS w u N) :
    Calls Try.prog 3 #[v, u] w (Good w) := by
  have HV := Lib.hid hv
  have HU := Lib.hid hu
  obtain ⟨a, cap, rfl⟩ := hv.form
  obtain ⟨a2, cap2, rfl⟩ := hu.form
  clear hv hu
  go_enter Try.func3, Try.ntmps3
  go_wp2_with fail
  refine (great_any _ _ roots N w HV.out HU.out).mono ?_
  rintro e w' ⟨r, rfl, rfl, hr⟩
  cases r with
  | true =>
    clear hr
    go_wp2_with fail
    refine (awake_any w).mono ?_
    rintro e w1 ⟨rfl, hb⟩
    have BB := Lib.hid hb
    clear hb
    go_wp2_with fail
    go_ret
    exact ⟨rfl, BB.out⟩
  | false =>
    obtain ⟨h1, h2, h3⟩ := hr rfl
    have H3 := Lib.hid h3
    clear hr h3
    have h4 : N.length ≤ 1000 := by omega
    have h5 : roots.length ≤ 1000 := by omega
    have h6 : roots.length + N.length ≤ 1000 := by omega
    go_wp2_with fail
    refine (reach_any _ _ roots N w h5 h4 HV.out HU.out (fun i => by have := H3.out i; omega)).mono ?_
    rintro e w1 ⟨z1, L1, rfl, r1, n1, m1, l1, b1⟩
    obtain ⟨a1, c1, rfl, -⟩ := r1.form
    have R1 := Lib.hid r1
    have N1 := Lib.hid n1
    have M1 := Lib.hid m1
    have B1 := Lib.hid b1
    clear r1 n1 m1 b1
    go_wp2_with fail
    refine (rreach_any _ _ roots N w1 h6 (HV.out.below B1.out) (HU.out.below B1.out) (fun i => by have := H3.out i; omega)).mono ?_
    rintro e w2 ⟨z2, L2, rfl, r2, n2, m2, l2, b2⟩
    obtain ⟨a2, c2, rfl, -⟩ := r2.form
    have R2 := Lib.hid r2
    have EQ : Hid (decide (L1 = L2) = true) := Lib.hid (decide_eq_true (N1.out.ext n2 (fun x => (M1.out x).trans (m2 x).symm)))
    replace R1 := Lib.hid (R1.out.below b2)
    replace B1 := Lib.hid (B1.out.trans (b2.mono B1.out.size))
    clear r2 n2 m2 b2 N1 M1
    go_wp2_with fail
    refine (same_any _ _ L1 L2 w2 (by omega) R1.out.is R2.out.is).mono ?_
    rintro e w3 ⟨rfl, b3⟩
    rw [EQ.out]
    replace B1 := Lib.hid (B1.out.trans (b3.mono B1.out.size))
    clear b3
    go_wp2_with fail
    refine (awake_any w3).mono ?_
    rintro e w4 ⟨rfl, b4⟩
    replace B1 := Lib.hid (B1.out.trans (b4.mono B1.out.size))
    clear b4
    go_wp2_with fail
    go_ret
    exact ⟨rfl, B1.out⟩
set_option maxRecDepth 100000 in
set_option maxHeartbeats 1600000 in
theorem tells_walk (v u : Value) (A B : List Int) (w : World) (hv : IS w v A) (hu : IS w u B) (oa : OkL A) (ob : OkL B) :
    Calls Try.prog 5 #[v, u] w (Good w) := by
  have HV := Lib.hid hv
  have HU := Lib.hid hu
  have OA := Lib.hid oa
  have OB := Lib.hid ob
  obtain ⟨a, cap, rfl⟩ := hv.form
  obtain ⟨a2, cap2, rfl⟩ := hu.form
  clear hv hu oa ob
  obtain ⟨n, hn⟩ : ∃ n, A.length = n := ⟨_, rfl⟩
  obtain ⟨m, hm⟩ : ∃ n, B.length = n := ⟨_, rfl⟩
  rw [hn] at HV ⊢
  rw [hm] at HU ⊢
  have HN := Lib.hid hn
  have HM := Lib.hid hm
  clear hn hm
  by_cases hc : 60 < n ∨ 60 < m
  · have main : ∀ (hx : 60 < n ∨ ¬ 60 < n) , True := fun _ => trivial
    clear main
    by_cases h1 : 60 < n
    · clear hc
      go_enter Try.func5, Try.ntmps5
      go_wp2_with fail
      refine (awake_any w).mono ?_
      rintro e w1 ⟨rfl, hb⟩
      have BB := Lib.hid hb
      clear hb
      go_wp2_with fail
      go_ret
      exact ⟨rfl, BB.out⟩
    · have h2 : 60 < m := by omega
      clear hc
      go_enter Try.func5, Try.ntmps5
      go_wp2_with fail
      refine (awake_any w).mono ?_
      rintro e w1 ⟨rfl, hb⟩
      have BB := Lib.hid hb
      clear hb
      go_wp2_with fail
      go_ret
      exact ⟨rfl, BB.out⟩
  · have h1 : ¬ 60 < n := by omega
    have h2 : ¬ 60 < m := by omega
    clear hc
    go_enter Try.func5, Try.ntmps5
    go_wp2_with fail
    refine (lost_any _ _ A B w (by rw [HN.out]; omega) (by rw [HM.out]; omega) HV.out HU.out OA.out OB.out).mono ?_
    rintro e w1 ⟨z1, L1, rfl, r1, n1, m1, l1, b1⟩
    rw [HN.out] at l1
    obtain ⟨a1, c1, rfl, -⟩ := r1.form
    have R1 := Lib.hid r1
    have N1 := Lib.hid n1
    have M1 := Lib.hid m1
    have B1 := Lib.hid b1
    clear r1 n1 m1 b1
    go_wp2_with fail
    refine (less_any _ _ A B w1 (by rw [HN.out]; omega) (by rw [HM.out]; omega) (HV.out.below B1.out) (HU.out.below B1.out)).mono ?_
    rintro e w2 ⟨z2, L2, rfl, r2, n2, m2, -, b2⟩
    obtain ⟨a2, c2, rfl, -⟩ := r2.form
    have R2 := Lib.hid r2
    have EQ : Hid (decide (L1 = L2) = true) := Lib.hid (decide_eq_true (N1.out.ext n2 (fun x => (M1.out x).trans (m2 x).symm)))
    replace R1 := Lib.hid (R1.out.below b2)
    replace B1 := Lib.hid (B1.out.trans (b2.mono B1.out.size))
    clear r2 n2 m2 b2 N1 M1
    go_wp2_with fail
    refine (same_any _ _ L1 L2 w2 (by omega) R1.out.is R2.out.is).mono ?_
    rintro e w3 ⟨rfl, b3⟩
    rw [EQ.out]
    replace B1 := Lib.hid (B1.out.trans (b3.mono B1.out.size))
    clear b3 EQ R1 R2
    go_wp2_with fail
    refine (wild_any _ _ B A w3 (by rw [HM.out]; omega) (by rw [HN.out]; omega) (HU.out.below B1.out) (HV.out.below B1.out) OB.out OA.out).mono ?_
    rintro e w4 ⟨z4, L4, rfl, r1, n1, m1, l4, b1⟩
    rw [HM.out] at l4
    obtain ⟨a4, c4, rfl, -⟩ := r1.form
    have R1 := Lib.hid r1
    have N1 := Lib.hid n1
    have M1 := Lib.hid m1
    replace B1 := Lib.hid (B1.out.trans (b1.mono B1.out.size))
    clear r1 n1 m1 b1
    go_wp2_with fail
    refine (less_any _ _ B A w4 (by rw [HM.out]; omega) (by rw [HN.out]; omega) (HU.out.below B1.out) (HV.out.below B1.out)).mono ?_
    rintro e w5 ⟨z5, L5, rfl, r2, n2, m2, -, b2⟩
    obtain ⟨a5, c5, rfl, -⟩ := r2.form
    have R2 := Lib.hid r2
    have EQ : Hid (decide (L4 = L5) = true) := Lib.hid (decide_eq_true (N1.out.ext n2 (fun x => (M1.out x).trans (m2 x).symm)))
    replace R1 := Lib.hid (R1.out.below b2)
    replace B1 := Lib.hid (B1.out.trans (b2.mono B1.out.size))
    clear r2 n2 m2 b2 N1 M1
    go_wp2_with fail
    refine (same_any _ _ L4 L5 w5 (by omega) R1.out.is R2.out.is).mono ?_
    rintro e w6 ⟨rfl, b3⟩
    rw [EQ.out]
    replace B1 := Lib.hid (B1.out.trans (b3.mono B1.out.size))
    clear b3 EQ R1 R2
    go_wp2_with fail
    refine (awake_any w6).mono ?_
    rintro e w7 ⟨rfl, b4⟩
    replace B1 := Lib.hid (B1.out.trans (b4.mono B1.out.size))
    clear b4
    go_wp2_with fail
    go_ret
    exact ⟨rfl, B1.out⟩
end Go.Proofs.Ytgejijlhgimgaaa
