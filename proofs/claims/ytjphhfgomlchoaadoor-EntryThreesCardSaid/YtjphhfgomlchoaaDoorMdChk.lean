/- entry.check, entry.find and entry.Check. -/
import Derived.Test.YtjphhfgomlchoaaDoorMdBase
namespace Go.Proofs.YtjphhfgomlchoaaDoor
open Go.ChangeShapes Go.WideShapes Go.ChangeAt Go.RowKit Go.Maps
set_option maxRecDepth 100000 in
set_option maxHeartbeats 1600000 in
theorem check_any (x : En) (w : World) : Calls Tryd.prog 26 #[enV x] w fun e w' => e = .returned (.int .i64 (chk x)) ∧ Below w.heap.size w w' := by
  have PL := Lib.hid plain_any
  unfold wdV at PL
  obtain ⟨a, ⟨v, n, r⟩, z, b⟩ := x
  unfold enV
  simp only
  obtain ⟨c, hc⟩ : ∃ c, chk (a, (v, n, r), z, b) = c := ⟨_, rfl⟩
  rw [hc]
  have HC := Lib.hid hc
  unfold chk at HC
  clear hc
  have BW := Lib.hid (below1 w (.cells #[.int .i64 a, .int .i64 v, .int .u32 n, .int .u32 r, .int .i64 z, .bool b] 48))
  by_cases h1 : a < 0
  · go_enter Tryd.func26, Tryd.ntmps26
    go_wp2_with fail
    go_ret
    exact ⟨by rw [← HC.out]; simp [h1], BW.out⟩
  by_cases h2 : 4096 ≤ a
  · go_enter Tryd.func26, Tryd.ntmps26
    go_wp2_with fail
    go_ret
    exact ⟨by rw [← HC.out]; simp [h2], BW.out⟩
  have E1 := Lib.hid (show ¬ (a < 0 ∨ 4096 ≤ a) by omega)
  go_enter Tryd.func26, Tryd.ntmps26
  go_upto_region 1 with fail
  obtain ⟨W, hW⟩ : ∃ W, w.alloc (.cells #[.int .i64 a, .int .i64 v, .int .u32 n, .int .u32 r, .int .i64 z, .bool b] 48) = W := ⟨_, rfl⟩
  obtain ⟨q, hq⟩ : ∃ q, w.heap.size = q := ⟨_, rfl⟩
  have B : Hid (Box W q #[.int .i64 a, .int .i64 v, .int .u32 n, .int .u32 r, .int .i64 z, .bool b] 48) := Lib.hid (by rw [← hW]; exact Box.new w _ 48 hq.symm)
  rw [hW] at BW
  rw [hW, hq]
  clear hW hq
  have z0 := B.out.cell 0
  have z1 := B.out.cell 1
  have z2 := B.out.cell 2
  have z3 := B.out.cell 3
  have z4 := B.out.cell 4
  have z5 := B.out.cell 5
  simp at z0 z1 z2 z3 z4 z5
  go_wp2_with fail
  refine (PL.out (v, n, r) W).mono ?_
  rintro e w' ⟨rfl, hb⟩
  replace B := Lib.hid (B.out.below hb)
  replace BW := Lib.hid (BW.out.trans (hb.mono BW.out.size))
  clear hb z0 z1 z2 z3 z4 z5 PL
  have z0 := B.out.cell 0
  have z1 := B.out.cell 1
  have z2 := B.out.cell 2
  have z3 := B.out.cell 3
  have z4 := B.out.cell 4
  have z5 := B.out.cell 5
  simp at z0 z1 z2 z3 z4 z5
  by_cases h3 : r = 0
  · rw [decide_eq_true h3]
    have E2 := Lib.hid h3
    clear h3
    cases b with
    | true =>
      by_cases h4 : n = 4294967295
      · subst h4
        go_wp2_with fail
        go_ret
        exact ⟨by rw [← HC.out]; simp [E1.out, E2.out], BW.out⟩
      · have h4' : (n == 4294967295) = false := by rw [beq_eq_false_iff_ne]; exact h4
        go_wp2_with fail
        go_ret
        exact ⟨by rw [← HC.out]; simp [E1.out, E2.out, h4], BW.out⟩
    | false =>
      by_cases h4 : z = v
      · have h4' : (z != v) = false := by rw [bne_eq_false_iff_eq]; exact h4
        have E3 := Lib.hid h4
        clear h4
        go_wp2_with fail
        go_ret
        exact ⟨by rw [← HC.out]; simp [E1.out, E2.out, E3.out], BW.out⟩
      · have h4' : (z != v) = true := by rw [bne_iff_ne]; exact h4
        go_wp2_with fail
        go_ret
        exact ⟨by rw [← HC.out]; simp [E1.out, E2.out, h4], BW.out⟩
  · rw [decide_eq_false h3]
    go_wp2_with fail
    go_ret
    exact ⟨by rw [← HC.out]; simp [E1.out, h3], BW.out⟩
/-- The closure of find, in whatever world its box lies. -/
theorem clo_any (x : En) (q : Nat) (a : Int) (w : World) (hq : Box w q #[.int .i64 a] 46) : Calls Tryd.prog 43 #[enV x, .pointer (some ⟨q, 0, none⟩)] w fun e w' => e = .returned (.bool (x.1 == a)) ∧ Below w.heap.size w w' := by
  obtain ⟨y, ⟨v, n, r⟩, z, b⟩ := x
  unfold enV
  simp only
  have lt := hq.lt
  have c0 := (hq.alloc (.cells #[.int .i64 y, .int .i64 v, .int .u32 n, .int .u32 r, .int .i64 z, .bool b] 48)).cell 0
  simp at c0
  go_enter Tryd.func43, Tryd.ntmps43
  go_wp2_with fail
  go_ret
  exact ⟨rfl, below1 _ _⟩
end Go.Proofs.YtjphhfgomlchoaaDoor
