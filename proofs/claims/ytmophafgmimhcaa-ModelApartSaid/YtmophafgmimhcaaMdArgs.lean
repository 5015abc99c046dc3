/- The arguments of the statements on models, opened. -/
import Derived.Test.YtmophafgmimhcaaMdBase
import Derived.Test.YtmophafgmimhcaaRows
namespace Go.Proofs.Ytmophafgmimhcaa
open Go.Joins Go.ChangeShapes Go.WideShapes Go.ChangeAt Go.RowKit Go.Deep Go.Maps

theorem own : ownKnob Try.prog.godebug = none := by kernel_rfl
theorem laidOut : laidOutB Try.prog = true := by kernel_rfl
theorem list3 {α : Type} {cs : List α} (h : cs.length = 3) : ∃ c0 c1 c2, cs = [c0, c1, c2] := by
  match cs, h with
  | [c0, c1, c2], _ => exact ⟨c0, c1, c2, rfl⟩
theorem list6 {α : Type} {cs : List α} (h : cs.length = 6) : ∃ c0 c1 c2 c3 c4 c5, cs = [c0, c1, c2, c3, c4, c5] := by
  match cs, h with
  | [c0, c1, c2, c3, c4, c5], _ => exact ⟨c0, c1, c2, c3, c4, c5, rfl⟩
section
variable {H : Type} {enc : TypeId × Value → H} {w : World} {base : Nat} {spare : Nat → Bool} {held : Bool}
theorem word_cells {n : Nat} {cs : List Value} {x : DataW H × List MemPlace} (h : DataW.trod enc Try.prog w base spare held n 43 cs = some x) : ∃ o : Wd, cs = wdE.enc o ∧ OkW o := by
  obtain ⟨y0, y1, y2, m, _, hl, h0, h1, h2⟩ := trod_struct3 Try.underlying43 h
  obtain ⟨c0, c1, c2, rfl⟩ := list3 (hl.trans (by kernel_rfl : Try.prog.cellsOf 43 = 3))
  rw [(by kernel_rfl : Try.prog.cellsOf 2 = 1)] at h0
  rw [(by kernel_rfl : Try.prog.cellsOf 41 = 1)] at h1 h2
  obtain ⟨a, rfl, ha⟩ := int_cellK Try.underlying2 h0
  obtain ⟨b, rfl, hb⟩ := int_cellK Try.underlying41 h1
  obtain ⟨c, rfl, hc⟩ := int_cellK Try.underlying41 h2
  have h4 : 0 ≤ b ∧ b < 4294967296 := by have := bounds_u32 hb; omega
  have h5 : 0 ≤ c ∧ c < 4294967296 := by have := bounds_u32 hc; omega
  exact ⟨(a, b, c), rfl, i64_wf ha, h4, h5⟩
theorem bool_cellK {t : TypeId} {n : Nat} {c : Value} {x : DataW H × List MemPlace} (ht : Try.prog.underlying t = some .bool) (h : DataW.trod enc Try.prog w base spare held n t [c] = some x) : ∃ b, c = .bool b := by
  obtain ⟨b, g1, _⟩ := DataW.trod_bool ht h
  simp only [List.cons.injEq, and_true] at g1
  exact ⟨b, g1⟩
theorem ent_cells {n : Nat} {cs : List Value} {x : DataW H × List MemPlace} (h : DataW.trod enc Try.prog w base spare held n 50 cs = some x) : ∃ o : En, cs = enE.enc o ∧ OkE o := by
  obtain ⟨y0, y1, y2, y3, m, _, hl, h0, h1, h2, h3⟩ := trod_struct4 Try.underlying50 h
  obtain ⟨c0, c1, c2, c3, c4, c5, rfl⟩ := list6 (hl.trans (by kernel_rfl : Try.prog.cellsOf 50 = 6))
  rw [(by kernel_rfl : Try.prog.cellsOf 40 = 1)] at h0
  rw [(by kernel_rfl : Try.prog.cellsOf 43 = 3)] at h1
  rw [(by kernel_rfl : Try.prog.cellsOf 2 = 1)] at h2
  rw [(by kernel_rfl : Try.prog.cellsOf 4 = 1)] at h3
  obtain ⟨a, rfl, ha⟩ := int_cellK Try.underlying40 h0
  obtain ⟨o, ho, hw⟩ := word_cells h1
  obtain ⟨z, rfl, hz⟩ := int_cellK Try.underlying2 h2
  obtain ⟨b, rfl⟩ := bool_cellK Try.underlying4 h3
  have e1 : c1 = .int .i64 o.1 ∧ c2 = .int .u32 o.2.1 ∧ c3 = .int .u32 o.2.2 := by
    have : [c1, c2, c3] = [.int .i64 o.1, .int .u32 o.2.1, .int .u32 o.2.2] := ho
    simpa using this
  obtain ⟨rfl, rfl, rfl⟩ := e1
  exact ⟨(a, o, z, b), rfl, i64_wf ha, hw, i64_wf hz⟩
end
abbrev Sl := Option Addr × Nat × Nat
def slE : Enc Sl where
  k := 1
  enc x := [.slice x.1 x.2.1 x.2.2]
  len _ := rfl
  one x u hu := by
    simp only [List.mem_cons, List.not_mem_nil, or_false] at hu
    rw [hu]; rfl
  pos := by decide
theorem open_words {H : Type} {enc : TypeId × Value → H} {W : World} {v : Value} {d : DataW H} {p : List MemPlace} {r : Reach} {b0 : Nat}
    (hv : Value.okWide Try.prog W r b0 22 v) (h : DataW.Trod enc Try.prog W 0 (fun _ => true) true 22 v d p) : ∃ l, WS W v l ∧ (∀ a ∈ l, OkW a) ∧ l.length ≤ maxLen :=
  open_sk Try.underlying22 (by kernel_rfl : Try.prog.cellsOf 43 = 3) (fun n cs x h => word_cells h) hv h
theorem open_ents {H : Type} {enc : TypeId × Value → H} {W : World} {v : Value} {d : DataW H} {p : List MemPlace} {r : Reach} {b0 : Nat}
    (hv : Value.okWide Try.prog W r b0 30 v) (h : DataW.Trod enc Try.prog W 0 (fun _ => true) true 30 v d p) : ∃ l, ES W v l ∧ (∀ a ∈ l, OkE a) ∧ l.length ≤ maxLen :=
  open_sk Try.underlying30 (by kernel_rfl : Try.prog.cellsOf 50 = 6) (fun n cs x h => ent_cells h) hv h
theorem open_lists {H : Type} {enc : TypeId × Value → H} {W : World} {v : Value} {d : DataW H} {p : List MemPlace} {r : Reach} {b0 : Nat}
    (hv : Value.okWide Try.prog W r b0 23 v) (h : DataW.Trod enc Try.prog W 0 (fun _ => true) true 23 v d p) : ∃ l : List Sl, SK slE W v l ∧ (∀ a ∈ l, ∃ L, ES W (.slice a.1 a.2.1 a.2.2) L ∧ ∀ e ∈ L, OkE e) ∧ l.length ≤ maxLen :=
  open_sk Try.underlying23 (by kernel_rfl : Try.prog.cellsOf 30 = 1) (fun n cs x h => by
    obtain ⟨a, m, c, l, e, h1, h2, _⟩ := open_cells Try.underlying30 (by kernel_rfl : Try.prog.cellsOf 50 = 6) (fun n cs x h => ent_cells h) h
    exact ⟨(a, m, c), e, l, h1, h2⟩) hv h
end Go.Proofs.Ytmophafgmimhcaa
