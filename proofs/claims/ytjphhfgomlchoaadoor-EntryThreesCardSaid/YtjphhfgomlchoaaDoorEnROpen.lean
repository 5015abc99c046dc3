/- The argument of EntryThrees, opened: six words and three lists of writes. -/
import Derived.Test.YtjphhfgomlchoaaDoorEnOpen
import Derived.Test.YtjphhfgomlchoaaDoorEnRun0
namespace Go.Proofs.YtjphhfgomlchoaaDoor
open Go Go.ChangeShapes Go.WideShapes Go.ChangeAt Go.RowKit Go.Joins Go.Deep
theorem split3 {α : Type} (l : List α) (n : Nat) : l.drop n = (l.drop n).take 3 ++ l.drop (n + 3) := by
  rw [← List.drop_drop, List.take_append_drop]
theorem split1 {α : Type} (l : List α) (n : Nat) : l.drop n = (l.drop n).take 1 ++ l.drop (n + 1) := by
  rw [← List.drop_drop, List.take_append_drop]
section
variable {H : Type} {enc : TypeId × Value → H} {w : World} {base : Nat} {spare : Nat → Bool} {held : Bool}
theorem put_cells {n : Nat} {cs : List Value} {x : DataW H × List MemPlace} (h : DataW.trod enc Tryd.prog w base spare held n 69 cs = some x) : ∃ o : Pt, cs = peE.enc o ∧ OkPt o := by
  obtain ⟨y0, y1, y2, m, _, hl, h0, h1, h2⟩ := trod_struct3 Tryd.underlying69 h
  obtain ⟨c0, c1, c2, rfl⟩ := list3 (hl.trans (by kernel_rfl : Tryd.prog.cellsOf 69 = 3))
  rw [(by kernel_rfl : Tryd.prog.cellsOf 5 = 1)] at h0
  rw [(by kernel_rfl : Tryd.prog.cellsOf 2 = 1)] at h1
  rw [(by kernel_rfl : Tryd.prog.cellsOf 4 = 1)] at h2
  obtain ⟨a, rfl, ha⟩ := int_cellK Tryd.underlying5 h0
  obtain ⟨b, rfl, hb⟩ := int_cellK Tryd.underlying2 h1
  obtain ⟨c, rfl⟩ := bool_cellK Tryd.underlying4 h2
  exact ⟨(a, b, c), rfl, by have := bounds_u8 ha; exact ⟨by omega, by omega⟩, i64_wf hb⟩
theorem words_cells {n : Nat} {cs : List Value} {x : DataW H × List MemPlace} (h : DataW.trod enc Tryd.prog w base spare held n 40 cs = some x) : ∃ W : List Wd, cs = wdE.flat W ∧ W.length = 6 ∧ ∀ x ∈ W, OkW x := by
  obtain ⟨xs, m, _, _, hl, hlen, hf⟩ := DataW.trod_array Tryd.underlying40 h
  rw [(by kernel_rfl : Tryd.prog.cellsOf 39 = 3)] at hf
  rw [(by kernel_rfl : Tryd.prog.cellsOf 40 = 18)] at hl
  have each : ∀ i, i < 6 → ∃ o : Wd, (cs.drop (i * 3)).take 3 = wdE.enc o ∧ OkW o := by
    intro i hi
    have h1 := hf i hi
    rw [List.getElem?_eq_getElem (by omega)] at h1
    exact word_cells h1
  obtain ⟨o0, e0, k0⟩ := each 0 (by omega)
  obtain ⟨o1, e1, k1⟩ := each 1 (by omega)
  obtain ⟨o2, e2, k2⟩ := each 2 (by omega)
  obtain ⟨o3, e3, k3⟩ := each 3 (by omega)
  obtain ⟨o4, e4, k4⟩ := each 4 (by omega)
  obtain ⟨o5, e5, k5⟩ := each 5 (by omega)
  refine ⟨[o0, o1, o2, o3, o4, o5], ?_, rfl, fun x hx => ?_⟩
  · have s0 := split3 cs 0
    have s1 := split3 cs 3
    have s2 := split3 cs 6
    have s3 := split3 cs 9
    have s4 := split3 cs 12
    have s5 := split3 cs 15
    have s6 : cs.drop 18 = [] := List.drop_eq_nil_of_le (by omega)
    rw [show (cs.drop 0).take 3 = wdE.enc o0 from e0, List.drop_zero] at s0
    rw [show (cs.drop 3).take 3 = wdE.enc o1 from e1] at s1
    rw [show (cs.drop 6).take 3 = wdE.enc o2 from e2] at s2
    rw [show (cs.drop 9).take 3 = wdE.enc o3 from e3] at s3
    rw [show (cs.drop 12).take 3 = wdE.enc o4 from e4] at s4
    rw [show (cs.drop 15).take 3 = wdE.enc o5 from e5] at s5
    rw [s0, s1, s2, s3, s4, s5, s6]
    rfl
  · simp only [List.mem_cons, List.not_mem_nil, or_false] at hx
    rcases hx with rfl | rfl | rfl | rfl | rfl | rfl <;> assumption
end
theorem puts_cells {H : Type} {enc : TypeId × Value → H} {W : World} {cs : List Value} {x0 : DataW H × List MemPlace} {fuel : Nat} (hf : DataW.trod enc Tryd.prog W 0 (fun _ => true) true fuel 41 cs = some x0) : ∃ v l, cs = [v] ∧ PTS W v l ∧ (∀ a ∈ l, OkPt a) ∧ l.length ≤ maxLen := by
  obtain ⟨a, n, c, l, h1, h2, h3, h4⟩ := open_cells (E := peE) Tryd.underlying41 (by kernel_rfl : Tryd.prog.cellsOf 69 = 3) (fun n cs x h => put_cells h) hf
  exact ⟨_, l, h1, h2, h3, h4⟩

set_option maxRecDepth 100000 in
theorem open_run {H : Type} {enc : TypeId × Value → H} {W : World} {v : Value} {d : DataW H} {p : List MemPlace} {r : Reach} {b0 : Nat}
    (hv : Value.okWide Tryd.prog W r b0 43 v) (h : DataW.Trod enc Tryd.prog W 0 (fun _ => true) true 43 v d p) : ∃ Ws va vb vc A B C, v = RunV Ws va vb vc ∧ Ws.length = 6 ∧ (∀ x ∈ Ws, OkW x) ∧ PTS W va A ∧ PTS W vb B ∧ PTS W vc C ∧ (∀ x ∈ A, OkPt x) ∧ (∀ x ∈ B, OkPt x) ∧ (∀ x ∈ C, OkPt x) ∧ A.length ≤ maxLen ∧ B.length ≤ maxLen ∧ C.length ≤ maxLen := by
  obtain ⟨cs, rfl, hsz⟩ := Go.WideShapes.okWide_struct Tryd.underlying43 hv
  obtain ⟨fuel, hf⟩ := h
  rw [(by kernel_rfl : Tryd.prog.cellsOf 43 = 21)] at hsz
  obtain ⟨y0, y1, y2, y3, m, _, hl, h0, h1, h2, h3⟩ := trod_struct4 Tryd.underlying43 hf
  rw [(by kernel_rfl : Tryd.prog.cellsOf 40 = 18)] at h0
  rw [(by kernel_rfl : Tryd.prog.cellsOf 41 = 1)] at h1 h2 h3
  obtain ⟨L, hL⟩ : ∃ l, cs.toList = l := ⟨_, rfl⟩
  have hLn : L.length = 21 := by rw [← hL]; simpa using hsz
  simp only [Value.cells, hL] at h0 h1 h2 h3
  obtain ⟨Ws, g0, w6, wo⟩ := words_cells h0
  obtain ⟨va, A, g1, a1, a2, a3⟩ := puts_cells h1
  obtain ⟨vb, B, g2, b1, b2, b3⟩ := puts_cells h2
  obtain ⟨vc, C, g3, c1, c2, c3⟩ := puts_cells h3
  refine ⟨Ws, va, vb, vc, A, B, C, ?_, w6, wo, a1, b1, c1, a2, b2, c2, a3, b3, c3⟩
  have e : L = rcL Ws va vb vc := by
    have s0 : L = L.take 18 ++ L.drop 18 := (List.take_append_drop 18 L).symm
    have s1 := split1 L 18
    have s2 := split1 L 19
    have s3 := split1 L 20
    have s4 : L.drop 21 = [] := List.drop_eq_nil_of_le (by omega)
    rw [show (L.drop 18).take 1 = [va] from g1] at s1
    rw [show (L.drop 19).take 1 = [vb] from g2] at s2
    rw [show (L.drop 20).take 1 = [vc] from g3] at s3
    rw [show L.take 18 = wdE.flat Ws from g0] at s0
    rw [s0, s1, s2, s3, s4]
    rfl
  unfold RunV
  rw [← e, ← hL]
end Go.Proofs.YtjphhfgomlchoaaDoor
