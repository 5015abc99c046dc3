/- The walk through ModelOutside. -/
import Derived.Test.YtmophafgmimhcaaMdAwake
namespace Go.Proofs.Ytmophafgmimhcaa
open Go.ChangeShapes Go.WideShapes Go.ChangeAt Go.RowKit Go.Maps
theorem eqlW (a b c a' b' c' : Int) (w : World) : (binOp .eql 43 (.agg #[.int .i64 a, .int .u32 b, .int .u32 c]) (.agg #[.int .i64 a', .int .u32 b', .int .u32 c'])).run Try.prog w = .ok (.bool (eqW (a, b, c) (a', b', c'))) w := by
  rw [run_eql_struct, equalW]; rfl
theorem bare_at (L : List Wd) (a : Int) : hasM (bare L) a = decide (0 ≤ a ∧ a < (L.length : Int)) := by unfold hasM; rw [bare_len]
theorem at_none (L : List Wd) (a : Int) (h : hasM L a = false) : atM L a = (0, 0, 0) := by
  unfold hasM at h
  unfold atM
  rw [if_neg (of_decide_eq_false h)]
theorem holds_nil (M : List Wd) : holds M [] = true := rfl
set_option maxRecDepth 100000 in
set_option maxHeartbeats 3200000 in
theorem outside_walk (v : Value) (a : Int) (L : List Wd) (w : World) (hv : WS w v L) : Calls Try.prog 4 #[v, .int .i64 a] w (Good w) := by
  have HV := Lib.hid hv
  obtain ⟨va, vc, rfl, _⟩ := hv.form
  clear hv
  obtain ⟨n, hn⟩ : ∃ n, L.length = n := ⟨_, rfl⟩
  rw [hn] at HV ⊢
  have HN := Lib.hid hn
  clear hn
  by_cases hbig : 20 < n
  · have hb1 : (20 : Int) < n := by omega
    go_enter Try.func4, Try.ntmps4
    go_wp2_with fail
    refine (awake_any w).mono ?_
    rintro e w1 ⟨rfl, hb⟩
    have BB := Lib.hid hb
    clear hb
    go_wp2_with fail
    go_ret
    exact ⟨rfl, BB.out⟩
  have hb1 : ¬ (20 : Int) < n := by omega
  have HA : Hid (hasM (bare L) a = decide (0 ≤ a ∧ a < (n : Int))) := Lib.hid (by rw [bare_at, HN.out])
  have HZ : Hid (hasM (bare L) a = false → atM (bare L) a = (0, 0, 0)) := Lib.hid (at_none _ _)
  go_enter Try.func4, Try.ntmps4
  go_wp2_with fail
  refine (new_any _ L w HV.out (by rw [HN.out]; omega)).mono ?_
  rintro e w1 ⟨u, rfl, hu, hb⟩
  have U := Lib.hid hu
  have BB := Lib.hid hb
  clear hu hb
  go_wp2_with fail
  refine (at_any u (bare L) a w1 U.out).mono ?_
  rintro e w2 ⟨rfl, hb⟩
  replace BB := Lib.hid (BB.out.trans (hb.mono BB.out.size))
  clear hb U
  obtain ⟨m, hm⟩ : ∃ m, atM (bare L) a = m := ⟨_, rfl⟩
  obtain ⟨ok, hok⟩ : ∃ m, hasM (bare L) a = m := ⟨_, rfl⟩
  rw [hm, hok] at HZ ⊢
  rw [hok] at HA
  clear hm hok
  obtain ⟨m0, m1, m2⟩ := m
  unfold wdV
  simp only at HZ ⊢
  go_upto_region 4 with fail
  have X := Lib.hid (Box.new w2 #[.int .i64 m0, .int .u32 m1, .int .u32 m2] 43 rfl)
  replace BB := Lib.hid (BB.out.alloc BB.out.size (.cells #[.int .i64 m0, .int .u32 m1, .int .u32 m2] 43))
  generalize w2.alloc (.cells #[.int .i64 m0, .int .u32 m1, .int .u32 m2] 43) = W3 at *
  generalize w2.heap.size = x at *
  go_upto_region 5 with fail
  have Z := Lib.hid (Box.new W3 #[.slice none 0 0] 27 rfl)
  replace X := Lib.hid (X.out.alloc (.cells #[.slice none 0 0] 27))
  replace BB := Lib.hid (BB.out.alloc BB.out.size (.cells #[.slice none 0 0] 27))
  generalize W3.alloc (.cells #[.slice none 0 0] 27) = W4 at *
  generalize W3.heap.size = z at *
  have z0 := Z.out.cell 0
  simp at z0
  go_wp2_with fail
  refine (at_any (.slice none 0 0) [] a W4 (SK.nil _ _ _)).mono ?_
  rintro e w5 ⟨rfl, hb⟩
  rw [show hasM [] a = false from decide_eq_false (by simp <;> omega), at_none [] a (decide_eq_false (by simp <;> omega))]
  replace BB := Lib.hid (BB.out.trans (hb.mono BB.out.size))
  replace X := Lib.hid (X.out.below hb)
  replace Z := Lib.hid (Z.out.below hb)
  clear hb z0
  unfold wdV
  simp only
  go_upto_region 6 with fail
  have Y := Lib.hid (Box.new w5 #[.int .i64 0, .int .u32 0, .int .u32 0] 43 rfl)
  replace X := Lib.hid (X.out.alloc (.cells #[.int .i64 0, .int .u32 0, .int .u32 0] 43))
  replace Z := Lib.hid (Z.out.alloc (.cells #[.int .i64 0, .int .u32 0, .int .u32 0] 43))
  replace BB := Lib.hid (BB.out.alloc BB.out.size (.cells #[.int .i64 0, .int .u32 0, .int .u32 0] 43))
  generalize w5.alloc (.cells #[.int .i64 0, .int .u32 0, .int .u32 0] 43) = W6 at *
  generalize w5.heap.size = y at *
  have qE := eqlW
  have gP := guardW
  have hee : eqW (0, 0, 0) (0, 0, 0) = true := rfl
  by_cases hin : 0 ≤ a ∧ a < (n : Int)
  · rw [decide_eq_true hin] at HA
    have h1 : ¬ a < 0 := by omega
    have h2 : ¬ (n : Int) ≤ a := by omega
    clear hin
    have hok := HA.out
    subst hok
    go_upto_region 7 with fail
    go_wp2_with fail
    refine (awake_any W6).mono ?_
    rintro e w7 ⟨rfl, hb⟩
    replace BB := Lib.hid (BB.out.trans (hb.mono BB.out.size))
    replace X := Lib.hid (X.out.below hb)
    replace Y := Lib.hid (Y.out.below hb)
    replace Z := Lib.hid (Z.out.below hb)
    clear hb
    have y0 := Y.out.cell 0
    have y1 := Y.out.cell 1
    have y2 := Y.out.cell 2
    have z0 := Z.out.cell 0
    simp at y0 y1 y2 z0
    go_wp2_with fail
    refine (len_any (.slice none 0 0) [] w7 (SK.nil _ _ _)).mono ?_
    rintro e w8 ⟨rfl, hb⟩
    replace BB := Lib.hid (BB.out.trans (hb.mono BB.out.size))
    replace Z := Lib.hid (Z.out.below hb)
    clear hb y0 y1 y2 z0
    have z0 := Z.out.cell 0
    simp at z0
    go_wp2_with fail
    refine (holds_any (.slice none 0 0) [] (.slice none 0 0) [] w8 (SK.nil _ _ _) (SK.nil _ _ _) (by simp)).mono ?_
    rintro e w9 ⟨rfl, hb⟩
    rw [holds_nil]
    replace BB := Lib.hid (BB.out.trans (hb.mono BB.out.size))
    clear hb z0
    go_wp2_with fail
    refine (new_any (.slice none 0 0) [] w9 (SK.nil _ _ _) (by simp)).mono ?_
    rintro e w10 ⟨u2, rfl, hu, hb⟩
    have U := Lib.hid hu
    replace BB := Lib.hid (BB.out.trans (hb.mono BB.out.size))
    clear hu hb
    go_wp2_with fail
    refine (len_any u2 (bare []) w10 U.out).mono ?_
    rintro e w11 ⟨rfl, hb⟩
    replace BB := Lib.hid (BB.out.trans (hb.mono BB.out.size))
    clear hb
    rw [show (bare []).length = 0 from rfl]
    go_wp2_with fail
    go_ret
    exact ⟨rfl, BB.out⟩
  · rw [decide_eq_false hin] at HA
    have hm0 := HZ.out HA.out
    have hok := HA.out
    subst hok
    injection hm0 with e0 e1
    injection e1 with e1 e2
    subst e0 e1 e2
    by_cases h1 : a < 0
    · clear hin
      go_upto_region 7 with fail
      go_wp2_with fail
      refine (awake_any W6).mono ?_
      rintro e w7 ⟨rfl, hb⟩
      replace BB := Lib.hid (BB.out.trans (hb.mono BB.out.size))
      replace X := Lib.hid (X.out.below hb)
      replace Y := Lib.hid (Y.out.below hb)
      replace Z := Lib.hid (Z.out.below hb)
      clear hb
      have x0 := X.out.cell 0
      have x1 := X.out.cell 1
      have x2 := X.out.cell 2
      have y0 := Y.out.cell 0
      have y1 := Y.out.cell 1
      have y2 := Y.out.cell 2
      have z0 := Z.out.cell 0
      simp at x0 x1 x2 y0 y1 y2 z0
      go_wp2_with fail
      refine (len_any (.slice none 0 0) [] w7 (SK.nil _ _ _)).mono ?_
      rintro e w8 ⟨rfl, hb⟩
      replace BB := Lib.hid (BB.out.trans (hb.mono BB.out.size))
      replace Z := Lib.hid (Z.out.below hb)
      clear hb x0 x1 x2 y0 y1 y2 z0
      have z0 := Z.out.cell 0
      simp at z0
      go_wp2_with fail
      refine (holds_any (.slice none 0 0) [] (.slice none 0 0) [] w8 (SK.nil _ _ _) (SK.nil _ _ _) (by simp)).mono ?_
      rintro e w9 ⟨rfl, hb⟩
      rw [holds_nil]
      replace BB := Lib.hid (BB.out.trans (hb.mono BB.out.size))
      clear hb z0
      go_wp2_with fail
      refine (new_any (.slice none 0 0) [] w9 (SK.nil _ _ _) (by simp)).mono ?_
      rintro e w10 ⟨u2, rfl, hu, hb⟩
      have U := Lib.hid hu
      replace BB := Lib.hid (BB.out.trans (hb.mono BB.out.size))
      clear hu hb
      go_wp2_with fail
      refine (len_any u2 (bare []) w10 U.out).mono ?_
      rintro e w11 ⟨rfl, hb⟩
      replace BB := Lib.hid (BB.out.trans (hb.mono BB.out.size))
      clear hb
      rw [show (bare []).length = 0 from rfl]
      go_wp2_with fail
      go_ret
      exact ⟨rfl, BB.out⟩
    · have h2 : (n : Int) ≤ a := by omega
      have h3 : ¬ a < (n : Int) := by omega
      clear hin
      go_upto_region 7 with fail
      go_wp2_with fail
      refine (awake_any W6).mono ?_
      rintro e w7 ⟨rfl, hb⟩
      replace BB := Lib.hid (BB.out.trans (hb.mono BB.out.size))
      replace X := Lib.hid (X.out.below hb)
      replace Y := Lib.hid (Y.out.below hb)
      replace Z := Lib.hid (Z.out.below hb)
      clear hb
      have x0 := X.out.cell 0
      have x1 := X.out.cell 1
      have x2 := X.out.cell 2
      have y0 := Y.out.cell 0
      have y1 := Y.out.cell 1
      have y2 := Y.out.cell 2
      have z0 := Z.out.cell 0
      simp at x0 x1 x2 y0 y1 y2 z0
      go_wp2_with fail
      refine (len_any (.slice none 0 0) [] w7 (SK.nil _ _ _)).mono ?_
      rintro e w8 ⟨rfl, hb⟩
      replace BB := Lib.hid (BB.out.trans (hb.mono BB.out.size))
      replace Z := Lib.hid (Z.out.below hb)
      clear hb x0 x1 x2 y0 y1 y2 z0
      have z0 := Z.out.cell 0
      simp at z0
      go_wp2_with fail
      refine (holds_any (.slice none 0 0) [] (.slice none 0 0) [] w8 (SK.nil _ _ _) (SK.nil _ _ _) (by simp)).mono ?_
      rintro e w9 ⟨rfl, hb⟩
      rw [holds_nil]
      replace BB := Lib.hid (BB.out.trans (hb.mono BB.out.size))
      clear hb z0
      go_wp2_with fail
      refine (new_any (.slice none 0 0) [] w9 (SK.nil _ _ _) (by simp)).mono ?_
      rintro e w10 ⟨u2, rfl, hu, hb⟩
      have U := Lib.hid hu
      replace BB := Lib.hid (BB.out.trans (hb.mono BB.out.size))
      clear hu hb
      go_wp2_with fail
      refine (len_any u2 (bare []) w10 U.out).mono ?_
      rintro e w11 ⟨rfl, hb⟩
      replace BB := Lib.hid (BB.out.trans (hb.mono BB.out.size))
      clear hb
      rw [show (bare []).length = 0 from rfl]
      go_wp2_with fail
      go_ret
      exact ⟨rfl, BB.out⟩
end Go.Proofs.Ytmophafgmimhcaa
