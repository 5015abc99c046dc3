/- The package-level variables that package sched reads; the keywords. -/
import Derived.Test.YtpgcnejofnhhfaaDoorSmall
namespace Go.Proofs.YtpgcnejofnhhfaaDoor
open Go.ChangeShapes Go.WideShapes Go.ChangeAt Go.RowKit

/-- What the package-level variables hold that the schedules' code reads. -/
structure Gl (w : World) : Prop where
  k0 : w.cell? ⟨0, 0, none⟩ = some (.string ⟨#[115, 116, 101, 112]⟩)
  k1 : w.cell? ⟨0, 1, none⟩ = some (.string ⟨#[115, 116, 111, 112]⟩)
  k2 : w.cell? ⟨0, 2, none⟩ = some (.string ⟨#[99, 114, 97, 115, 104]⟩)
  ml : ∃ m, w.cell? ⟨1, 0, none⟩ = some (.int .i64 m)
  es : ∃ ev, w.cell? ⟨2, 0, none⟩ = some ev ∧ (ev = .nilIface ∨ ∃ te pe, ev = .iface te pe)
  er : ∃ ev, w.cell? ⟨3, 0, none⟩ = some ev ∧ (ev = .nilIface ∨ ∃ te pe, ev = .iface te pe)
  big : 9 ≤ w.heap.size
theorem Gl.below {w w1 : World} (h : Gl w) (hb : Below w.heap.size w w1) : Gl w1 := by
  have hz := h.big
  refine ⟨(hb.cell (by simp; omega)).trans h.k0, (hb.cell (by simp; omega)).trans h.k1, (hb.cell (by simp; omega)).trans h.k2, ?_, ?_, ?_, Nat.le_trans hz hb.size⟩
  · obtain ⟨m, hm⟩ := h.ml; exact ⟨m, (hb.cell (by simp; omega)).trans hm⟩
  · obtain ⟨m, hm, he⟩ := h.es; exact ⟨m, (hb.cell (by simp; omega)).trans hm, he⟩
  · obtain ⟨m, hm, he⟩ := h.er; exact ⟨m, (hb.cell (by simp; omega)).trans hm, he⟩

/-- The kind of a keyword. -/
def stepB : ByteArray := ⟨#[115, 116, 101, 112]⟩
def stopB : ByteArray := ⟨#[115, 116, 111, 112]⟩
def crashB : ByteArray := ⟨#[99, 114, 97, 115, 104]⟩
def kindL (s : ByteArray) : Option Int := if s = stepB then some 0 else if s = stopB then some 1 else if s = crashB then some 2 else none
def kindV (s : ByteArray) : Value := .tuple #[.int .i64 ((kindL s).getD 0), .bool (kindL s).isSome]
theorem ix0 (a b c : Value) (w : World) : (Instr.index 81 (.agg #[a, b, c]) (.int .i64 0)).run Tryd.prog w = .ok a w := by
  simp [Instr.index, run_underlying Tryd.underlying81, asIntOf, go_sem, Tryd.isAgg9, Tryd.sizeOf9]
theorem ix1 (a b c : Value) (w : World) : (Instr.index 81 (.agg #[a, b, c]) (.int .i64 1)).run Tryd.prog w = .ok b w := by
  simp [Instr.index, run_underlying Tryd.underlying81, asIntOf, go_sem, Tryd.isAgg9, Tryd.sizeOf9]
theorem ix2 (a b c : Value) (w : World) : (Instr.index 81 (.agg #[a, b, c]) (.int .i64 2)).run Tryd.prog w = .ok c w := by
  simp [Instr.index, run_underlying Tryd.underlying81, asIntOf, go_sem, Tryd.isAgg9, Tryd.sizeOf9]
theorem bytes_of {s : ByteArray} {l : List UInt8} (h : s.toList = l) : s = ⟨l.toArray⟩ := by
  rw [ByteArray.toList_eq] at h; apply ByteArray.ext; simp [← h]
theorem bne_str {l : List UInt8} {b : ByteArray} (h : ¬ b = ⟨l.toArray⟩) : (l == b.toList) = false := by
  cases he : (l == b.toList) with
  | false => rfl
  | true => exact absurd (bytes_of (eq_of_beq he).symm) h
theorem bne_str' {l : List UInt8} {b : ByteArray} (h : ¬ b = ⟨l.toArray⟩) : (b.toList == l) = false := by
  cases he : (b.toList == l) with
  | false => rfl
  | true => exact absurd (bytes_of (eq_of_beq he)) h
set_option maxRecDepth 100000 in
set_option maxHeartbeats 1600000 in
theorem kindOf_any (s : ByteArray) (w : World) (hg : Gl w) : Calls Tryd.prog 37 #[.string s] w fun e w' => e = .returned (kindV s) ∧ w = w' := by
  obtain ⟨k0, k1, k2, -, -, -, -⟩ := hg
  have i0 := ix0
  have i1 := ix1
  have i2 := ix2
  by_cases h1 : s = stepB
  · subst h1
    rw [show kindV stepB = .tuple #[.int .i64 0, .bool true] by simp [kindV, kindL]]
    unfold stepB
    go_enter Tryd.func37, Tryd.ntmps37
    go_wp2
    refine wp_loop_rounds 1 ?_
    rw [rounds_succ]
    go_wp2
    go_ret2
    exact ⟨rfl, rfl⟩
  · have e0 : (([115, 116, 101, 112] : List UInt8) == s.toList) = false := bne_str h1
    by_cases h2 : s = stopB
    · subst h2
      rw [show kindV stopB = .tuple #[.int .i64 1, .bool true] by simp [kindV, kindL, h1]]
      clear h1 e0
      unfold stopB
      go_enter Tryd.func37, Tryd.ntmps37
      go_wp2
      refine wp_loop_rounds 2 ?_
      rw [rounds_succ]
      go_wp2
      rw [rounds_succ]
      go_wp2
      go_ret2
      exact ⟨rfl, rfl⟩
    · have e1 : (([115, 116, 111, 112] : List UInt8) == s.toList) = false := bne_str h2
      by_cases h3 : s = crashB
      · subst h3
        rw [show kindV crashB = .tuple #[.int .i64 2, .bool true] by simp [kindV, kindL, h1, h2]]
        clear h1 e0 h2 e1
        unfold crashB
        go_enter Tryd.func37, Tryd.ntmps37
        go_wp2
        refine wp_loop_rounds 3 ?_
        rw [rounds_succ]
        go_wp2
        rw [rounds_succ]
        go_wp2
        rw [rounds_succ]
        go_wp2
        go_ret2
        exact ⟨rfl, rfl⟩
      · have e2 : (([99, 114, 97, 115, 104] : List UInt8) == s.toList) = false := bne_str h3
        rw [show kindV s = .tuple #[.int .i64 0, .bool false] by simp [kindV, kindL, h1, h2, h3]]
        clear h1 h2 h3
        go_enter Tryd.func37, Tryd.ntmps37
        go_wp2
        refine wp_loop_rounds 4 ?_
        rw [rounds_succ]
        go_wp2
        rw [rounds_succ]
        go_wp2
        rw [rounds_succ]
        go_wp2
        rw [rounds_succ]
        go_wp2
        go_ret2
        exact ⟨rfl, rfl⟩
end Go.Proofs.YtpgcnejofnhhfaaDoor
