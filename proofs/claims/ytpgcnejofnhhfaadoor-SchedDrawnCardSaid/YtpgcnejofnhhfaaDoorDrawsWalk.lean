/- Statement SchedDraws: the walk through the law for every input. -/
import Derived.Test.YtpgcnejofnhhfaaDoorDraw
namespace Go.Proofs.YtpgcnejofnhhfaaDoor
open Go.ChangeShapes Go.WideShapes Go.ChangeAt Go.RowKit
theorem drawL_len (s t : Int) (n : Nat) (c : Int) : (drawL s t n c).length ≤ 2 * n := drawGo_len _ _ _ _ _
/-- Draw at parameters that are not valid. -/
def Bad (t n c : Int) : Prop := fitsL t n = false ∨ c < 0 ∨ 64 < c
theorem draw_no (s t n c : Int) (w : World) (h : Bad t n c) : Calls Tryd.prog 19 #[.int .u64 s, .int .i64 t, .int .i64 n, .int .i64 c] w fun e w' => e = .returned (.slice none 0 0) ∧ w = w' := by
  cases hf : fitsL t n with
  | false =>
    have HF := Lib.hid hf
    clear hf h
    go_enter Tryd.func19, Tryd.ntmps19
    go_wp2_with fail
    refine (fits_any t n _).mono ?_
    rintro e w' ⟨rfl, rfl⟩
    rw [HF.out]
    go_wp2_with fail
    go_ret
    exact ⟨rfl, rfl⟩
  | true =>
    have HF := Lib.hid hf
    by_cases h1 : c < 0
    · clear hf h
      go_enter Tryd.func19, Tryd.ntmps19
      go_wp2_with fail
      refine (fits_any t n _).mono ?_
      rintro e w' ⟨rfl, rfl⟩
      rw [HF.out]
      go_wp2_with fail
      go_ret
      exact ⟨rfl, rfl⟩
    · have h2 : 64 < c := by
        rcases h with h | h | h
        · rw [hf] at h; cases h
        · omega
        · exact h
      clear hf h
      go_enter Tryd.func19, Tryd.ntmps19
      go_wp2_with fail
      refine (fits_any t n _).mono ?_
      rintro e w' ⟨rfl, rfl⟩
      rw [HF.out]
      go_wp2_with fail
      go_ret
      exact ⟨rfl, rfl⟩
end Go.Proofs.YtpgcnejofnhhfaaDoor
namespace Go.Proofs.YtpgcnejofnhhfaaDoor.schedDraws
open Go.ChangeShapes Go.WideShapes Go.ChangeAt Go.RowKit
def Good (w : World) (e : Ending) (w' : World) : Prop := e = .returned (.bool true) ∧ Below w.heap.size w w'
/-- The box of the parameters. -/
def DBox (W : World) (b : Nat) (s t n c : Int) : Prop := Box W b #[.int .u64 s, .int .i64 t, .int .i64 n, .int .i64 c] 43
theorem DBox.cells {W : World} {b : Nat} {s t n c : Int} (h : DBox W b s t n c) : W.cell? ⟨b, 0, none⟩ = some (.int .u64 s) ∧ W.cell? ⟨b, 1, none⟩ = some (.int .i64 t) ∧ W.cell? ⟨b, 2, none⟩ = some (.int .i64 n) ∧ W.cell? ⟨b, 3, none⟩ = some (.int .i64 c) := ⟨Box.cell h 0, Box.cell h 1, Box.cell h 2, Box.cell h 3⟩
structure In (w : World) (b : Nat) (s t n c : Int) (W : World) : Prop where
  x : DBox W b s t n c
  g : Gl W
  b : Below b w W
theorem In.below {w W W' : World} {b : Nat} {s t n c : Int} (h : In w b s t n c W) (hb : Below W.heap.size W W') : In w b s t n c W' :=
  ⟨Box.below h.x hb, h.g.below hb, h.b.trans (hb.mono (Nat.le_of_lt (Box.lt h.x)))⟩
theorem In.new {w : World} (s t n c : Int) (hg : Gl w) : In w w.heap.size s t n c (w.alloc (.cells #[.int .u64 s, .int .i64 t, .int .i64 n, .int .i64 c] 43)) :=
  ⟨Box.new w _ 43 rfl, hg.below (below1 _ _), below1 _ _⟩
set_option maxRecDepth 100000 in
set_option maxHeartbeats 1600000 in
theorem walk_no (s t n c : Int) (w : World) (hg : Gl w) (h : Bad t n c) : Calls Tryd.prog 5 #[.agg #[.int .u64 s, .int .i64 t, .int .i64 n, .int .i64 c]] w (Good w) := by
  have I := Lib.hid (In.new s t n c hg)
  have HB := Lib.hid h
  have HF := Lib.hid (show (fitsL t n && decide (0 ≤ c ∧ c ≤ 64)) = false by
    rcases h with h | h | h
    · rw [h]; rfl
    · rw [show decide (0 ≤ c ∧ c ≤ 64) = false by simp; omega, Bool.and_false]
    · rw [show decide (0 ≤ c ∧ c ≤ 64) = false by simp; omega, Bool.and_false])
  clear h hg
  go_enter Tryd.func5, Tryd.ntmps5
  go_wp2_with fail
  generalize w.alloc (.cells #[.int .u64 s, .int .i64 t, .int .i64 n, .int .i64 c] 43) = W0 at *
  obtain ⟨b, hb0⟩ : ∃ b, w.heap.size = b := ⟨_, rfl⟩
  have HW := Lib.hid hb0
  rw [hb0] at I ⊢
  clear hb0
  refine (draw_no s t n c _ HB.out).mono ?_
  rintro e w' ⟨rfl, rfl⟩
  obtain ⟨k0, k1, k2, k3⟩ := I.out.x.cells
  go_wp2_with fail
  refine (fits_c t n c _).mono ?_
  rintro e w' ⟨rfl, rfl⟩
  rw [HF.out]
  go_wp2_with fail
  refine (awake_any _ I.out.g).mono ?_
  rintro e w2 ⟨rfl, hb⟩
  replace I := Lib.hid (I.out.below hb)
  clear hb k0 k1 k2 k3
  go_wp2_with fail
  go_ret
  exact ⟨rfl, by rw [HW.out]; exact I.out.b⟩
set_option maxRecDepth 100000 in
set_option maxHeartbeats 1600000 in
theorem walk_ok (s t : Int) (n : Nat) (c : Int) (w : World) (hg : Gl w) (hs : U64 s) (t1 : 1 ≤ t) (t8 : t ≤ 8) (hn : n ≤ 4096) (c0 : 0 ≤ c) (c6 : c ≤ 64) : Calls Tryd.prog 5 #[.agg #[.int .u64 s, .int .i64 t, .int .i64 n, .int .i64 c]] w (Good w) := by
  have I := Lib.hid (In.new s t n c hg)
  have HF := Lib.hid (show (fitsL t n && decide (0 ≤ c ∧ c ≤ 64)) = true by rw [show decide (0 ≤ c ∧ c ≤ 64) = true by simp; omega]; unfold fitsL; simp; omega)
  have HU := Lib.hid hs
  have HL := Lib.hid (drawL_len s t n c)
  clear hg hs
  go_enter Tryd.func5, Tryd.ntmps5
  go_wp2_with fail
  generalize w.alloc (.cells #[.int .u64 s, .int .i64 t, .int .i64 n, .int .i64 c] 43) = W0 at *
  obtain ⟨b, hb0⟩ : ∃ b, w.heap.size = b := ⟨_, rfl⟩
  have HW := Lib.hid hb0
  rw [hb0] at I ⊢
  clear hb0
  refine (draw19 s t n c _ HU.out t1 t8 hn c0 c6).mono ?_
  rintro e w1 ⟨v, rfl, hr, hb⟩
  have P := Lib.hid hr.ps
  replace I := Lib.hid (I.out.below hb)
  clear hr hb
  obtain ⟨k0, k1, k2, k3⟩ := I.out.x.cells
  go_wp2_with fail
  refine (fits_c t n c _).mono ?_
  rintro e w' ⟨rfl, rfl⟩
  rw [HF.out]
  go_wp2_with fail
  clear k0 k1 k2 k3
  refine (draw21 s t n c _ HU.out t1 t8 hn c0 c6).mono ?_
  rintro e w2 ⟨u, rfl, hr, hb⟩
  have P2 := Lib.hid hr.ps
  replace P := Lib.hid (P.out.below hb)
  replace I := Lib.hid (I.out.below hb)
  clear hr hb
  obtain ⟨k0, k1, k2, k3⟩ := I.out.x.cells
  go_wp2_with fail
  refine (same_any _ _ (drawL s t n c) (drawL s t n c) _ (by have := HL.out; omega) P.out P2.out).mono ?_
  rintro e w3 ⟨rfl, hb⟩
  rw [decide_eq_true rfl]
  replace P := Lib.hid (P.out.below hb)
  replace I := Lib.hid (I.out.below hb)
  clear hb P2 k0 k1 k2 k3
  obtain ⟨k0, k1, k2, k3⟩ := I.out.x.cells
  go_wp2_with fail
  clear k0 k1 k2 k3
  refine (draw19 s t n c _ HU.out t1 t8 hn c0 c6).mono ?_
  rintro e w4 ⟨u, rfl, hr, hb⟩
  have P2 := Lib.hid hr.ps
  replace P := Lib.hid (P.out.below hb)
  replace I := Lib.hid (I.out.below hb)
  clear hr hb
  go_wp2_with fail
  refine (alike_any _ _ (drawL s t n c) (drawL s t n c) _ (by have := HL.out; omega) P.out P2.out).mono ?_
  rintro e w5 ⟨rfl, hb⟩
  rw [decide_eq_true rfl]
  replace I := Lib.hid (I.out.below hb)
  clear hb P P2
  go_wp2_with fail
  refine (awake_any _ I.out.g).mono ?_
  rintro e w6 ⟨rfl, hb⟩
  replace I := Lib.hid (I.out.below hb)
  clear hb
  go_wp2_with fail
  go_ret
  exact ⟨rfl, by rw [HW.out]; exact I.out.b⟩
theorem walk (s t n c : Int) (w : World) (hs0 : 0 ≤ s) (hs1 : s < 18446744073709551616) (hg : Gl w) : Calls Tryd.prog 5 #[.agg #[.int .u64 s, .int .i64 t, .int .i64 n, .int .i64 c]] w (Good w) := by
  by_cases h : 1 ≤ t ∧ t ≤ 8 ∧ 0 ≤ n ∧ n ≤ 4096 ∧ 0 ≤ c ∧ c ≤ 64
  · obtain ⟨m, rfl⟩ : ∃ m : Nat, n = m := ⟨n.toNat, by omega⟩
    exact walk_ok s t m c w hg ⟨hs0, hs1⟩ h.1 h.2.1 (by omega) h.2.2.2.2.1 h.2.2.2.2.2
  · refine walk_no s t n c w hg ?_
    unfold Bad fitsL
    simp
    omega
end Go.Proofs.YtpgcnejofnhhfaaDoor.schedDraws
