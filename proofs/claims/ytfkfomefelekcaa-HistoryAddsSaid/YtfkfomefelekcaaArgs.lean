/- The arguments of the statements on histories, opened. -/
import Derived.Test.YtfkfomefelekcaaMade
import Derived.Test.YtfkfomefelekcaaRows
import Derived.ProofKit
import Derived.ShutString
import Derived.ChangeOld
import Derived.Deep.SlicePairs
import Derived.Deep.Strs
import Derived.Lib.SmallJoins
namespace Go.Proofs.Ytfkfomefelekcaa
open Go.Joins Go.ChangeShapes Go.WideShapes Go.ChangeAt Go.RowKit Go.Deep

theorem own : ownKnob Try.prog.godebug = none := by kernel_rfl
theorem laidOut : laidOutB Try.prog = true := by kernel_rfl
theorem i64_wf {n : Int} (h : (Lit.int .i64 n).wf = true) : -9223372036854775808 ≤ n ∧ n < 9223372036854775808 := by
  have := bounds_i64 h
  omega

instance : Inhabited One := ⟨zeroOne⟩
theorem list3 {α : Type} {cs : List α} (h : cs.length = 3) : ∃ c0 c1 c2, cs = [c0, c1, c2] := by
  match cs, h with
  | [c0, c1, c2], _ => exact ⟨c0, c1, c2, rfl⟩
theorem list6 {α : Type} {cs : List α} (h : cs.length = 6) : ∃ c0 c1 c2 c3 c4 c5, cs = [c0, c1, c2, c3, c4, c5] := by
  match cs, h with
  | [c0, c1, c2, c3, c4, c5], _ => exact ⟨c0, c1, c2, c3, c4, c5, rfl⟩

section
variable {H : Type} {enc : TypeId × Value → H} {w : World} {base : Nat} {spare : Nat → Bool} {held : Bool}

theorem int_cell {t : TypeId} {k : IntKind} {n : Nat} {c : Value} {x : DataW H × List MemPlace} (ht : Try.prog.underlying t = some (.int k)) (h : DataW.trod enc Try.prog w base spare held n t [c] = some x) : ∃ N, c = .int k N ∧ (Lit.int k N).wf = true := by
  obtain ⟨N, g1, _, g3⟩ := DataW.trod_int ht h
  simp only [List.cons.injEq, and_true] at g1
  exact ⟨N, g1, g3⟩

theorem word_cells {n : Nat} {cs : List Value} {x : DataW H × List MemPlace} (h : DataW.trod enc Try.prog w base spare held n 24 cs = some x) :
    ∃ a b c, cs = [.int .i64 a, .int .u32 b, .int .u32 c] ∧ (Lit.int .i64 a).wf = true ∧ (Lit.int .u32 b).wf = true ∧ (Lit.int .u32 c).wf = true := by
  obtain ⟨y0, y1, y2, m, _, hl, h0, h1, h2⟩ := trod_struct3 Try.underlying24 h
  obtain ⟨c0, c1, c2, rfl⟩ := list3 (hl.trans (by kernel_rfl : Try.prog.cellsOf 24 = 3))
  rw [(by kernel_rfl : Try.prog.cellsOf 2 = 1)] at h0
  rw [(by kernel_rfl : Try.prog.cellsOf 22 = 1)] at h1 h2
  obtain ⟨a, rfl, ha⟩ := int_cell Try.underlying2 h0
  obtain ⟨b, rfl, hb⟩ := int_cell Try.underlying22 h1
  obtain ⟨c, rfl, hc⟩ := int_cell Try.underlying22 h2
  exact ⟨a, b, c, rfl, ha, hb, hc⟩

theorem one_cells {n : Nat} {cs : List Value} {x : DataW H × List MemPlace} (h : DataW.trod enc Try.prog w base spare held n 32 cs = some x) :
    ∃ o : One, cs = [.int .i64 o.val, .int .u32 o.ver, .int .u32 o.ref, .int .i64 o.thr, .int .u8 o.at_, .int .u8 o.known] ∧ o.Ok := by
  obtain ⟨y0, y1, y2, y3, m, _, hl, h0, h1, h2, h3⟩ := trod_struct4 Try.underlying32 h
  obtain ⟨c0, c1, c2, c3, c4, c5, rfl⟩ := list6 (hl.trans (by kernel_rfl : Try.prog.cellsOf 32 = 6))
  rw [(by kernel_rfl : Try.prog.cellsOf 24 = 3)] at h0
  rw [(by kernel_rfl : Try.prog.cellsOf 3 = 1)] at h1
  rw [(by kernel_rfl : Try.prog.cellsOf 5 = 1)] at h2 h3
  obtain ⟨a, b, c, e0, ha, hb, hc⟩ := word_cells h0
  simp only [List.drop_zero, List.take_succ_cons, List.take_zero, List.cons.injEq, and_true] at e0
  obtain ⟨rfl, rfl, rfl⟩ := e0
  obtain ⟨d, rfl, hd⟩ := int_cell Try.underlying3 h1
  obtain ⟨e, rfl, he⟩ := int_cell Try.underlying5 h2
  obtain ⟨f, rfl, hf⟩ := int_cell Try.underlying5 h3
  refine ⟨⟨a, b, c, d, e, f⟩, rfl, ?_⟩
  have ha := i64_wf ha
  have hd := i64_wf hd
  have hb := bounds_u32 hb
  have hc := bounds_u32 hc
  have he := bounds_u8 he
  have hf := bounds_u8 hf
  simp only [One.Ok]
  omega
end

theorem open_word {H : Type} {enc : TypeId × Value → H} {W : World} {v : Value} {d : DataW H} {p : List MemPlace} {r : Reach} {b0 : Nat}
    (hv : Value.okWide Try.prog W r b0 24 v) (h : DataW.Trod enc Try.prog W 0 (fun _ => true) true 24 v d p) : ∃ a b c, v = .agg #[.int .i64 a, .int .u32 b, .int .u32 c] ∧ (-9223372036854775808 ≤ a ∧ a < 9223372036854775808) ∧ (0 ≤ b ∧ b < 4294967296) ∧ (0 ≤ c ∧ c < 4294967296) := by
  obtain ⟨cs, rfl, _⟩ := okWide_struct Try.underlying24 hv
  obtain ⟨fuel, hf⟩ := h
  obtain ⟨a, b, c, e, ha, hb, hc⟩ := word_cells hf
  have hb := bounds_u32 hb
  have hc := bounds_u32 hc
  refine ⟨a, b, c, ?_, i64_wf ha, by omega, by omega⟩
  simp only [Value.cells] at e
  rw [← Array.toArray_toList (xs := cs), e]

theorem open_one {H : Type} {enc : TypeId × Value → H} {W : World} {v : Value} {d : DataW H} {p : List MemPlace} {r : Reach} {b0 : Nat}
    (hv : Value.okWide Try.prog W r b0 32 v) (h : DataW.Trod enc Try.prog W 0 (fun _ => true) true 32 v d p) : ∃ o : One, v = oneV o ∧ o.Ok := by
  obtain ⟨cs, rfl, _⟩ := okWide_struct Try.underlying32 hv
  obtain ⟨fuel, hf⟩ := h
  obtain ⟨o, e, ho⟩ := one_cells hf
  refine ⟨o, ?_, ho⟩
  simp only [Value.cells] at e
  rw [oneV, ← Array.toArray_toList (xs := cs), e]

theorem open_ones {H : Type} {enc : TypeId × Value → H} {W : World} {v : Value} {d : DataW H} {p : List MemPlace} {r : Reach} {b0 : Nat}
    (hv : Value.okWide Try.prog W r b0 25 v) (h : DataW.Trod enc Try.prog W 0 (fun _ => true) true 25 v d p) : ∃ l, IsOnes W v l ∧ OnesOk l := by
  obtain ⟨a, len, cap, rfl⟩ := okWide_slice Try.underlying25 hv
  obtain ⟨fuel, hf⟩ := h
  rcases open_slice Try.underlying25 hf with ⟨hcs, _⟩ | ⟨x, l', c', m, n, D, Pl, hcs, _, hl, hm, hmm, _, hall⟩
  · simp [Value.cells] at hcs
    obtain ⟨rfl, rfl, rfl⟩ := hcs
    exact ⟨[], .inl ⟨_, _, rfl, rfl⟩, fun p hp => by cases hp⟩
  · simp [Value.cells] at hcs
    obtain ⟨rfl, rfl, rfl⟩ := hcs
    simp only [if_true] at hmm
    subst hmm
    rw [(by kernel_rfl : Try.prog.cellsOf 32 = 6)] at hall
    have each : ∀ i, i < m → ∃ o : One, o.Ok ∧ W.cell? (x.add (i * 6)) = some (.int .i64 o.val) ∧ W.cell? (x.add (i * 6 + 1)) = some (.int .u32 o.ver) ∧ W.cell? (x.add (i * 6 + 2)) = some (.int .u32 o.ref) ∧ W.cell? (x.add (i * 6 + 3)) = some (.int .i64 o.thr) ∧ W.cell? (x.add (i * 6 + 4)) = some (.int .u8 o.at_) ∧ W.cell? (x.add (i * 6 + 5)) = some (.int .u8 o.known) := by
      intro i hi
      obtain ⟨cs', h1, h2⟩ := hall i hi
      obtain ⟨o, rfl, ho⟩ := one_cells h2
      obtain ⟨_, _, hcell⟩ := World.cells?_some h1
      refine ⟨o, ho, ?_, ?_, ?_, ?_, ?_, ?_⟩
      · simpa [add_add] using hcell 0 (by omega)
      · simpa [add_add] using hcell 1 (by omega)
      · simpa [add_add] using hcell 2 (by omega)
      · simpa [add_add] using hcell 3 (by omega)
      · simpa [add_add] using hcell 4 (by omega)
      · simpa [add_add] using hcell 5 (by omega)
    cases hlen : len with
    | zero => exact ⟨[], .inl ⟨_, _, rfl, rfl⟩, fun p hp => by cases hp⟩
    | succ k =>
      obtain ⟨b, off, spot⟩ := x
      have hc0 : ∃ v, W.cell? ((⟨b, off, spot⟩ : Addr).add (0 * 6)) = some v := by obtain ⟨o, _, h, _⟩ := each 0 (by omega); exact ⟨_, h⟩
      obtain ⟨v0, hc0⟩ := hc0
      have hspot : spot = none := by simpa [Addr.add] using World.cell?_spot hc0
      subst hspot
      have hlt : b < W.heap.size := by
        rcases Nat.lt_or_ge b W.heap.size with h' | h'
        · exact h'
        · simp [World.cell?, Addr.add, Array.getElem?_eq_none h'] at hc0
      obtain ⟨F, hF⟩ := choose_lt (α := One) each
      rw [← hlen]
      refine ⟨(List.range len).map F, .inr ⟨b, off, m, by simp, hlt, fun i hi => ?_⟩, fun o ho => ?_⟩
      · have hi' : i < len := by simpa using hi
        obtain ⟨_, c0, c1, c2, c3, c4, c5⟩ := hF i (by omega)
        have q : ((List.range len).map F).getD i zeroOne = F i := by simp [List.getD, hi']
        rw [q]
        rw [add_plain] at c0 c1 c2 c3 c4 c5
        simp only [← Nat.add_assoc] at c0 c1 c2 c3 c4 c5
        exact ⟨c0, c1, c2, c3, c4, c5⟩
      · obtain ⟨i, hi, rfl⟩ := List.mem_map.1 ho
        have hi' := List.mem_range.1 hi
        exact (hF i (by omega)).1
end Go.Proofs.Ytfkfomefelekcaa
