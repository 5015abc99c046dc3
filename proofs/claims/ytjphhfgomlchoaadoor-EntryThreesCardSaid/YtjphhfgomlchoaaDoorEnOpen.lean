/- What the rows list of the package-level variables, read as the walks want it; lists of entries, opened. -/
import Derived.Test.YtjphhfgomlchoaaDoorEnWord
import Derived.Test.YtjphhfgomlchoaaDoorTie
import Derived.Test.YtjphhfgomlchoaaDoorCards
import Derived.LaidMore
import Derived.Stop.Joined
import Derived.Stop.LaidErr
import Derived.SevenTiedAt
import Derived.Lay
import Derived.LaidOnce
import Derived.Lib.LaidU8
import Derived.Lib.LaidTab
import Derived.Lib.SmallJoins
namespace Go.Proofs.YtjphhfgomlchoaaDoor
open Go Go.ChangeShapes Go.WideShapes Go.ChangeAt Go.RowKit Go.Joins Go.Deep
theorem returns_listed {H : Type} {enc : TypeId × Value → H} {a : Assume} {C : Checked} {os : Os} {f : FuncId} {fn : Func} {s : ChangeSpec} {conds : List PathCond} {apart fresh handsOn again : Bool} {X : World → Array Value → Prop}
    (hX : ∀ (w w' : World) (args : Array Value), w.heap = w'.heap → X w args → X w' args)
    (own : ownKnob C.prog.godebug = none) (started : os.Started) (noInit : C.prog.inits.idxOf? f = none) (hfn : C.prog.funcs[f]? = some fn)
    (witness : ∃ (w : World) (tape : Tape) (i : Input), w.os = os ∧ (w.forCall tape i).Shaped C.prog ∧ i.vars = [] ∧ Input.okWide C.prog (w.forCall tape i) .any w.heap.size f i ∧
      ((s.pre enc C.prog fn conds apart (w.forCall tape i).memory i.args ∧ X (w.forCall tape i).memory i.args) ∧ sizedMet enc C.prog fn (OpenSpec.ofChange s) apart (w.forCall tape i).memory i.args) ∧ a.holds C.prog (lone (Frame.enter C.prog f i.args .normal) [] (w.forCall tape i)))
    (contract : ∀ (W : World) (base : Nat) (args : Array Value) (ds gs : List (DataW H)) (before : List MemPlace),
      (∀ (j : Nat) t v, fn.params[j]? = some t → args[j]? = some v → Value.okWide C.prog W .any base t v) →
      DataW.Whole enc C.prog fn.params.toList s.vars apart W args.toList ds gs before → X W args → W.ShapedOpen C.prog →
      Calls C.prog f args W fun e W' => ∃ v, e = .returned v ∧ s.post enc C.prog fn apart fresh handsOn again W args v W') :
    ReturnsInHanded a C os f .any (fun w args => (s.pre enc C.prog fn conds apart w args ∧ X w args) ∧ sizedMet enc C.prog fn (OpenSpec.ofChange s) apart w args) (s.post enc C.prog fn apart fresh handsOn again) := by
  refine returnsInHanded_of_calls own started noInit witness ?_
  intro w tape i _ hsh _ hok hpre _
  obtain ⟨_, _, _, fn', hfn', _, _, _, _, hval⟩ := hok
  have e : fn' = fn := Option.some.inj (hfn'.symm.trans hfn)
  subst e
  obtain ⟨⟨⟨ds, gs, before, hw, _⟩, hx⟩, _⟩ := hpre
  refine (contract (w.forCall tape i) w.heap.size i.args ds gs before hval (DataW.Whole.of_heap (w' := w.forCall tape i) (by rfl) hw) (hX _ _ _ (by rfl) hx) hsh).mono fun e W' ⟨v, he, hp⟩ => ?_
  subst he
  exact ChangeSpec.post_blind hp


theorem gPow : Tryd.prog.globalNamed "internal/strconv.uint64pow10" = some 0 := by kernel_rfl
theorem tPow : (Tryd.prog.globals[0]?).map (·.type) = some 110 := by kernel_rfl
theorem cells88 : Tryd.prog.cellsOf 88 = 1 := by kernel_rfl
theorem cells110 : Tryd.prog.cellsOf 110 = 20 := by kernel_rfl
theorem powData : (Rows.laid_internal_strconv_uint64pow10 : DataW Unit) = Lib.tabData .u64 Lib.pow10Tab := by
  simp [Rows.laid_internal_strconv_uint64pow10, Lib.tabData, Lib.pow10Tab, List.range_succ]
theorem tab_of {W : World} (h : laidMetH Tryd.prog Rows.entryChecksRow.laid W) : Tab W := by
  rw [MakeChecks.laidMetH_plain _ _ _ (by kernel_rfl)] at h
  have h3 : laidMet Tryd.prog (("internal/strconv.uint64pow10", Rows.laid_internal_strconv_uint64pow10) :: _) W := h.tail.tail
  rw [powData] at h3
  exact Lib.tabIs_of_head gPow tPow Tryd.underlying110 Tryd.underlying88 cells88 cells110 h3
theorem laidOut : laidOutB Tryd.prog = true := by kernel_rfl
theorem list3 {α : Type} {cs : List α} (h : cs.length = 3) : ∃ c0 c1 c2, cs = [c0, c1, c2] := by
  match cs, h with
  | [c0, c1, c2], _ => exact ⟨c0, c1, c2, rfl⟩
theorem list6 {α : Type} {cs : List α} (h : cs.length = 6) : ∃ c0 c1 c2 c3 c4 c5, cs = [c0, c1, c2, c3, c4, c5] := by
  match cs, h with
  | [c0, c1, c2, c3, c4, c5], _ => exact ⟨c0, c1, c2, c3, c4, c5, rfl⟩
section
variable {H : Type} {enc : TypeId × Value → H} {w : World} {base : Nat} {spare : Nat → Bool} {held : Bool}
theorem word_cells {n : Nat} {cs : List Value} {x : DataW H × List MemPlace} (h : DataW.trod enc Tryd.prog w base spare held n 39 cs = some x) : ∃ o : Wd, cs = wdE.enc o ∧ OkW o := by
  obtain ⟨y0, y1, y2, m, _, hl, h0, h1, h2⟩ := trod_struct3 Tryd.underlying39 h
  obtain ⟨c0, c1, c2, rfl⟩ := list3 (hl.trans (by kernel_rfl : Tryd.prog.cellsOf 39 = 3))
  rw [(by kernel_rfl : Tryd.prog.cellsOf 2 = 1)] at h0
  rw [(by kernel_rfl : Tryd.prog.cellsOf 37 = 1)] at h1 h2
  obtain ⟨a, rfl, ha⟩ := int_cellK Tryd.underlying2 h0
  obtain ⟨b, rfl, hb⟩ := int_cellK Tryd.underlying37 h1
  obtain ⟨c, rfl, hc⟩ := int_cellK Tryd.underlying37 h2
  have h4 : 0 ≤ b ∧ b < 4294967296 := by have := bounds_u32 hb; omega
  have h5 : 0 ≤ c ∧ c < 4294967296 := by have := bounds_u32 hc; omega
  exact ⟨(a, b, c), rfl, i64_wf ha, h4, h5⟩
theorem bool_cellK {t : TypeId} {n : Nat} {c : Value} {x : DataW H × List MemPlace} (ht : Tryd.prog.underlying t = some .bool) (h : DataW.trod enc Tryd.prog w base spare held n t [c] = some x) : ∃ b, c = .bool b := by
  obtain ⟨b, g1, _⟩ := DataW.trod_bool ht h
  simp only [List.cons.injEq, and_true] at g1
  exact ⟨b, g1⟩
theorem ent_cells {n : Nat} {cs : List Value} {x : DataW H × List MemPlace} (h : DataW.trod enc Tryd.prog w base spare held n 48 cs = some x) : ∃ o : En, cs = enE.enc o ∧ OkE o := by
  obtain ⟨y0, y1, y2, y3, m, _, hl, h0, h1, h2, h3⟩ := trod_struct4 Tryd.underlying48 h
  obtain ⟨c0, c1, c2, c3, c4, c5, rfl⟩ := list6 (hl.trans (by kernel_rfl : Tryd.prog.cellsOf 48 = 6))
  rw [(by kernel_rfl : Tryd.prog.cellsOf 46 = 1)] at h0
  rw [(by kernel_rfl : Tryd.prog.cellsOf 39 = 3)] at h1
  rw [(by kernel_rfl : Tryd.prog.cellsOf 2 = 1)] at h2
  rw [(by kernel_rfl : Tryd.prog.cellsOf 4 = 1)] at h3
  obtain ⟨a, rfl, ha⟩ := int_cellK Tryd.underlying46 h0
  obtain ⟨o, ho, hw⟩ := word_cells h1
  obtain ⟨z, rfl, hz⟩ := int_cellK Tryd.underlying2 h2
  obtain ⟨b, rfl⟩ := bool_cellK Tryd.underlying4 h3
  have e1 : c1 = .int .i64 o.1 ∧ c2 = .int .u32 o.2.1 ∧ c3 = .int .u32 o.2.2 := by
    have : [c1, c2, c3] = [.int .i64 o.1, .int .u32 o.2.1, .int .u32 o.2.2] := ho
    simpa using this
  obtain ⟨rfl, rfl, rfl⟩ := e1
  exact ⟨(a, o, z, b), rfl, i64_wf ha, hw, i64_wf hz⟩
end

set_option maxRecDepth 100000 in
theorem open_ents {H : Type} {enc : TypeId × Value → H} {W : World} {v : Value} {d : DataW H} {p : List MemPlace} {r : Reach} {b0 : Nat}
    (hv : Value.okWide Tryd.prog W r b0 22 v) (h : DataW.Trod enc Tryd.prog W 0 (fun _ => true) true 22 v d p) : ∃ l, ES W v l ∧ (∀ a ∈ l, OkE a) ∧ l.length ≤ maxLen :=
  open_sk Tryd.underlying22 (by kernel_rfl : Tryd.prog.cellsOf 48 = 6) (fun n cs x h => ent_cells h) hv h
end Go.Proofs.YtjphhfgomlchoaaDoor
