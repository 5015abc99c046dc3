/- Memories in the world; the contracts of hasThread, hasPlace, check and Size. -/
import Derived.Test.YtbaljoehgdhhhaaRow
namespace Go.Proofs.Ytbaljoehgdhhhaa
open Go.RowKit Go.Shelf Go.Maps

/-- A memory: the messages of each address, the view of each thread. -/
structure Mem where
  hs : List (List Msg)
  vs : List (List (Int × Int))

def MW (w : World) (pv vv : Value) (M : Mem) : Prop := ∃ (P : List (Value × List MP)) (V : List (Option Nat × List (Int × Int))),
  RW w pv (P.map (·.1)) ∧ (∀ x ∈ P, HW w x.1 x.2) ∧ P.map (fun x => x.2.map (·.1)) = M.hs ∧
  RW w vv (V.map fun x => .map x.1) ∧ (∀ x ∈ V, VW w x.1 x.2) ∧ V.map (·.2) = M.vs

theorem MW.below {w w1 : World} {pv vv : Value} {M : Mem} (h : MW w pv vv M) (hb : Below w.heap.size w w1) : MW w1 pv vv M := by
  obtain ⟨P, V, h1, h2, h3, h4, h5, h6⟩ := h
  exact ⟨P, V, h1.below hb, fun x hx => (h2 x hx).below hb, h3, h4.below hb, fun x hx => (h5 x hx).below hb, h6⟩

theorem MW.slices {w : World} {pv vv : Value} {M : Mem} (h : MW w pv vv M) : ∃ a1 a2, pv = .slice a1 M.hs.length M.hs.length ∧ vv = .slice a2 M.vs.length M.vs.length := by
  obtain ⟨P, V, h1, h2, h3, h4, h5, h6⟩ := h
  obtain ⟨a1, e1, _⟩ := h1.slice
  obtain ⟨a2, e2, _⟩ := h4.slice
  refine ⟨a1, a2, ?_, ?_⟩
  · rw [e1, ← h3, List.length_map, List.length_map]
  · rw [e2, ← h6, List.length_map, List.length_map]

/-- The error number of a thread and an address. -/
def errOf (np nv : Nat) (t at_ : Int) : Int := if t < 1 ∨ (nv : Int) < t then 3 else if at_ < 0 ∨ (np : Int) ≤ at_ then 1 else 0

set_option maxRecDepth 100000 in
theorem hasThread_any (a1 a2 : Option Addr) (np nv : Nat) (t : Int) (w : World) :
    Calls Try.prog 35 #[.agg #[.slice a1 np np, .slice a2 nv nv], .int .i64 t] w fun e w' => e = .returned (.bool (decide (1 ≤ t ∧ t ≤ nv))) ∧ Below w.heap.size w w' := by
  have BB := Lib.hid (below_new w (.cells #[.slice a1 np np, .slice a2 nv nv] 31))
  by_cases h1 : 1 ≤ t
  · by_cases h2 : t ≤ nv
    · rw [show decide (1 ≤ t ∧ t ≤ (nv : Int)) = true by simp; omega]
      go_enter Try.func35, Try.ntmps35
      go_wp2
      go_ret
      exact ⟨by simp, BB.out⟩
    · rw [show decide (1 ≤ t ∧ t ≤ (nv : Int)) = false by simp; omega]
      go_enter Try.func35, Try.ntmps35
      go_wp2
      go_ret
      exact ⟨by simp, BB.out⟩
  · rw [show decide (1 ≤ t ∧ t ≤ (nv : Int)) = false by simp; omega]
    go_enter Try.func35, Try.ntmps35
    go_wp2
    go_ret
    exact ⟨by simp, BB.out⟩

set_option maxRecDepth 100000 in
theorem hasPlace_any (a1 a2 : Option Addr) (np nv : Nat) (t : Int) (w : World) (t0 : -9223372036854775808 ≤ t) (t1 : t < 9223372036854775808) :
    Calls Try.prog 36 #[.agg #[.slice a1 np np, .slice a2 nv nv], .int .i64 t] w fun e w' => e = .returned (.bool (decide (0 ≤ t ∧ t < np))) ∧ Below w.heap.size w w' := by
  have BB := Lib.hid (below_new w (.cells #[.slice a1 np np, .slice a2 nv nv] 31))
  by_cases h1 : 0 ≤ t
  · by_cases h2 : t < np
    · rw [show decide (0 ≤ t ∧ t < (np : Int)) = true by simp; omega]
      go_enter Try.func36, Try.ntmps36
      go_wp2
      go_ret
      exact ⟨by simp, BB.out⟩
    · rw [show decide (0 ≤ t ∧ t < (np : Int)) = false by simp; omega]
      go_enter Try.func36, Try.ntmps36
      go_wp2
      go_ret
      exact ⟨by simp, BB.out⟩
  · rw [show decide (0 ≤ t ∧ t < (np : Int)) = false by simp; omega]
    go_enter Try.func36, Try.ntmps36
    go_wp2
    go_ret
    exact ⟨by simp, BB.out⟩

set_option maxRecDepth 100000 in
set_option maxHeartbeats 800000 in
theorem check_any (a1 a2 : Option Addr) (np nv : Nat) (t at_ : Int) (w : World) (p0 : -9223372036854775808 ≤ at_) (p1 : at_ < 9223372036854775808) :
    Calls Try.prog 37 #[.agg #[.slice a1 np np, .slice a2 nv nv], .int .i64 t, .int .i64 at_] w fun e w' => e = .returned (.int .i64 (errOf np nv t at_)) ∧ Below w.heap.size w w' := by
  have BB := Lib.hid (below_new w (.cells #[.slice a1 np np, .slice a2 nv nv] 31))
  have K0 := Lib.hid (Box.new w #[.slice a1 np np, .slice a2 nv nv] 31 rfl)
  by_cases h1 : 1 ≤ t ∧ t ≤ nv
  · have d1 : decide (1 ≤ t ∧ t ≤ (nv : Int)) = true := by simpa using h1
    by_cases h2 : 0 ≤ at_ ∧ at_ < np
    · have d2 : decide (0 ≤ at_ ∧ at_ < (np : Int)) = true := by simpa using h2
      rw [show errOf np nv t at_ = 0 by unfold errOf; rw [if_neg (by omega), if_neg (by omega)]]
      clear h1 h2
      go_enter Try.func37, Try.ntmps37
      go_wp2_with fail
      refine (hasThread_any a1 a2 np nv t _).mono ?_
      rintro e w1 ⟨rfl, hb⟩
      rw [d1]
      obtain ⟨⟨m0, m1⟩, -⟩ := (K0.out.below hb).cells2
      have BB2 := Lib.hid (BB.out.trans (hb.mono BB.out.size))
      clear hb BB K0
      go_wp2_with fail
      refine (hasPlace_any a1 a2 np nv at_ _ p0 p1).mono ?_
      rintro e w2 ⟨rfl, hb⟩
      rw [d2]
      have BB3 := BB2.out.trans (hb.mono BB2.out.size)
      clear hb m0 m1
      go_wp2
      go_ret
      exact ⟨rfl, BB3⟩
    · have d2 : decide (0 ≤ at_ ∧ at_ < (np : Int)) = false := by simpa using h2
      rw [show errOf np nv t at_ = 1 by unfold errOf; rw [if_neg (by omega), if_pos (by omega)]]
      clear h1 h2
      go_enter Try.func37, Try.ntmps37
      go_wp2_with fail
      refine (hasThread_any a1 a2 np nv t _).mono ?_
      rintro e w1 ⟨rfl, hb⟩
      rw [d1]
      obtain ⟨⟨m0, m1⟩, -⟩ := (K0.out.below hb).cells2
      have BB2 := Lib.hid (BB.out.trans (hb.mono BB.out.size))
      clear hb BB K0
      go_wp2_with fail
      refine (hasPlace_any a1 a2 np nv at_ _ p0 p1).mono ?_
      rintro e w2 ⟨rfl, hb⟩
      rw [d2]
      have BB3 := BB2.out.trans (hb.mono BB2.out.size)
      clear hb m0 m1
      go_wp2
      go_ret
      exact ⟨rfl, BB3⟩
  · have d1 : decide (1 ≤ t ∧ t ≤ (nv : Int)) = false := by simpa using h1
    rw [show errOf np nv t at_ = 3 by unfold errOf; rw [if_pos (by omega)]]
    clear h1
    go_enter Try.func37, Try.ntmps37
    go_wp2_with fail
    refine (hasThread_any a1 a2 np nv t _).mono ?_
    rintro e w1 ⟨rfl, hb⟩
    rw [d1]
    have BB3 := BB.out.trans (hb.mono BB.out.size)
    clear hb K0
    go_wp2
    go_ret
    exact ⟨rfl, BB3⟩

end Go.Proofs.Ytbaljoehgdhhhaa
