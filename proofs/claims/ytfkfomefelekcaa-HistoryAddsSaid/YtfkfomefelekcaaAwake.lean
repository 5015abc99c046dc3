/- awake of the statements on histories. -/
import Derived.Test.YtfkfomefelekcaaMade
namespace Go.Proofs.Ytfkfomefelekcaa
open Go.RowKit Go.Shelf Go.Maps

def one6 : One := ⟨6, 0, 0, 0, 0, 0⟩
def one7 : One := ⟨7, 0, 0, 0, 0, 0⟩

theorem IsHist.block {w w' : World} {ms : List Msg} {e : Ending} (h : IsHist w ms e w') : ∃ b q, w.heap.size ≤ b ∧ b < w'.heap.size ∧ q.map (·.1) = ms ∧ q.length = ms.length ∧ e = .returned (.agg #[.slice (some ⟨b, 0, none⟩) ms.length ms.length]) ∧ HW w' (.slice (some ⟨b, 0, none⟩) ms.length ms.length) q ∧ Below w.heap.size w w' := by
  obtain ⟨b, q, h1, h2, h3, h4, h5⟩ := h
  refine ⟨b, q, h1, ?_, h2, by rw [← h2, List.length_map], h3, h4, h5⟩
  obtain ⟨_, h | ⟨b', t, e, hk⟩⟩ := h4
  · exact absurd h.1 (by simp)
  · simp only [Value.slice.injEq, Option.some.injEq, Addr.mk.injEq] at e
    obtain rfl := e.1.1
    exact lt_block hk

theorem len_c (a : Option Addr) (n c : Nat) (w : World) : Calls Try.prog 13 #[.agg #[.slice a n c]] w fun e w' => e = .returned (.int .i64 n) ∧ Below w.heap.size w w' := by
  refine (len_any a n c w).mono ?_
  rintro e w1 ⟨rfl, rfl⟩
  exact ⟨rfl, below_new _ _⟩

set_option maxRecDepth 100000 in
set_option maxHeartbeats 1600000 in
theorem awake_any (w : World) : Calls Try.prog 8 #[] w fun e w' => e = .returned (.bool true) ∧ Below w.heap.size w w' := by
  have h1 : IsOnes (w.alloc (.cells #[.int .i64 6, .int .u32 0, .int .u32 0, .int .i64 0, .int .u8 0, .int .u8 0, .int .i64 7, .int .u32 0, .int .u32 0, .int .i64 0, .int .u8 0, .int .u8 0] 32)) (.slice (some ⟨w.heap.size, 0, none⟩) 2 2) [one6, one7] := by
    refine .inr ⟨w.heap.size, 0, 2, rfl, by simp, fun i hi => ?_⟩
    have hi' : i = 0 ∨ i = 1 := by simp at hi; omega
    rcases hi' with rfl | rfl <;> simp [go_sem, one6, one7]
  have h2 : OnesOk [one6, one7] := by
    intro o ho
    simp at ho
    rcases ho with rfl | rfl <;> simp [One.Ok, one6, one7]
  have H1 := Lib.hid h1
  have H2 := Lib.hid h2
  clear h1 h2
  go_enter Try.func8, Try.ntmps8
  go_wp2_with fail
  refine (made_any _ _ _ _ [one6, one7] _ H1.out (by simp) H2.out).mono ?_
  rintro e w1 h
  obtain ⟨b, q, hb, hlt, hq, hql, rfl, hh, hB⟩ := h.block
  clear h
  simp only [World.size_alloc] at hb hB
  have hB0 := Lib.hid ((below_new w _).trans (hB.mono (by simp)))
  clear hB hh H1 H2 hq
  simp only [msgsOf_length, List.length_cons, List.length_nil, Nat.zero_add] at *
  have BB := hB0
  clear hB0
  go_wp2_with fail
  have hlt_b0 := BB.out.size
  have BB' := Lib.hid (BB.out.trans ((below_new w1 (.cells #[.slice (some ⟨b, 0, none⟩) 3 3] 29)).mono BB.out.size))
  clear BB
  have BB := BB'
  clear BB'
  have K0 := Lib.hid (Box.new w1 #[.slice (some ⟨b, 0, none⟩) 3 3] 29 rfl)
  generalize World.alloc w1 (.cells #[.slice (some ⟨b, 0, none⟩) 3 3] 29) = a0 at *
  generalize World.heap w1 = hp_b0 at *
  generalize hp_b0.size = b0 at *
  refine (len_c _ 3 3 _).mono ?_
  rintro e a1 ⟨rfl, hb⟩
  have K0' := Lib.hid (K0.out.below (hb))
  have BB' := Lib.hid (BB.out.trans ((hb).mono BB.out.size))
  clear K0
  have K0 := K0'
  clear K0'
  clear BB
  have BB := BB'
  clear BB'
  clear hb
  have kc0 := K0.out.cells1.1
  go_wp2_with fail
  clear kc0
  refine (choose_any _ 3 3 (0) (0) _ (by omega) (by omega) (by omega) (by omega) (by omega)).mono ?_
  rintro e a2 ⟨rfl, hb⟩
  have K0' := Lib.hid (K0.out.below (hb))
  have BB' := Lib.hid (BB.out.trans ((hb).mono BB.out.size))
  clear K0
  have K0 := K0'
  clear K0'
  clear BB
  have BB := BB'
  clear BB'
  clear hb
  rw [show chooseL 3 (0) (0) = 2 from rfl]
  have kc0 := K0.out.cells1.1
  go_wp2_with fail
  clear kc0
  refine (choose_any _ 3 3 (0) (1) _ (by omega) (by omega) (by omega) (by omega) (by omega)).mono ?_
  rintro e a3 ⟨rfl, hb⟩
  have K0' := Lib.hid (K0.out.below (hb))
  have BB' := Lib.hid (BB.out.trans ((hb).mono BB.out.size))
  clear K0
  have K0 := K0'
  clear K0'
  clear BB
  have BB := BB'
  clear BB'
  clear hb
  rw [show chooseL 3 (0) (1) = 1 from rfl]
  have kc0 := K0.out.cells1.1
  go_wp2_with fail
  clear kc0
  refine (choose_any _ 3 3 (1) (2) _ (by omega) (by omega) (by omega) (by omega) (by omega)).mono ?_
  rintro e a4 ⟨rfl, hb⟩
  have K0' := Lib.hid (K0.out.below (hb))
  have BB' := Lib.hid (BB.out.trans ((hb).mono BB.out.size))
  clear K0
  have K0 := K0'
  clear K0'
  clear BB
  have BB := BB'
  clear BB'
  clear hb
  rw [show chooseL 3 (1) (2) = 2 from rfl]
  have kc0 := K0.out.cells1.1
  go_wp2_with fail
  clear kc0
  refine (choose_any _ 3 3 (9) (4) _ (by omega) (by omega) (by omega) (by omega) (by omega)).mono ?_
  rintro e a5 ⟨rfl, hb⟩
  have K0' := Lib.hid (K0.out.below (hb))
  have BB' := Lib.hid (BB.out.trans ((hb).mono BB.out.size))
  clear K0
  have K0 := K0'
  clear K0'
  clear BB
  have BB := BB'
  clear BB'
  clear hb
  rw [show chooseL 3 (9) (4) = 2 from rfl]
  have kc0 := K0.out.cells1.1
  go_wp2_with fail
  clear kc0
  refine (choose_any _ 3 3 (-3) (5) _ (by omega) (by omega) (by omega) (by omega) (by omega)).mono ?_
  rintro e a6 ⟨rfl, hb⟩
  have K0' := Lib.hid (K0.out.below (hb))
  have BB' := Lib.hid (BB.out.trans ((hb).mono BB.out.size))
  clear K0
  have K0 := K0'
  clear K0'
  clear BB
  have BB := BB'
  clear BB'
  clear hb
  rw [show chooseL 3 (-3) (5) = 0 from rfl]
  go_wp2
  go_ret
  exact ⟨rfl, BB.out⟩
end Go.Proofs.Ytfkfomefelekcaa
