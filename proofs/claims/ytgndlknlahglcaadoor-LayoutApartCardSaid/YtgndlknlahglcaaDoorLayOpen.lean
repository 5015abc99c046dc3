/- What the rows list of the package-level variable, read as the walks want it; the wrap of a listed row; a layout as an argument. -/
import Derived.Test.YtgndlknlahglcaaDoorLayFns
import Derived.Test.YtgndlknlahglcaaDoorTie
import Derived.Test.YtgndlknlahglcaaDoorCards
import Derived.ProofKit
import Derived.LaidMore
import Derived.OpenShut
import Derived.Stop.Joined
import Derived.Stop.LaidErr
import Derived.SevenTiedAt
import Derived.Lay
import Derived.LaidOnce
import Derived.Lib.LaidU8
import Derived.Lib.SmallJoins
import Derived.ShutString
import Derived.ChangeOld
import Derived.Deep.SlicePairs
import Derived.Deep.Strs
namespace Go.Proofs.YtgndlknlahglcaaDoor
open Go Go.ChangeShapes Go.WideShapes Go.ChangeAt Go.RowKit Go.Joins Go.Deep

theorem returns_listed {H : Type} {enc : TypeId × Value → H} {a : Assume} {C : Checked} {os : Os} {f : FuncId} {fn : Func} {s : ChangeSpec} {conds : List PathCond} {apart fresh handsOn again : Bool} {X : World → Array Value → Prop}
    (hX : ∀ (w w' : World) (args : Array Value), w.heap = w'.heap → X w args → X w' args)
    (own : ownKnob C.prog.godebug = none) (started : os.Started) (noInit : C.prog.inits.idxOf? f = none) (hfn : C.prog.funcs[f]? = some fn)
    (witness : ∃ (w : World) (tape : Tape) (i : Input), w.os = os ∧ (w.forCall tape i).Shaped C.prog ∧ i.vars = [] ∧ Input.okWide C.prog (w.forCall tape i) .any w.heap.size f i ∧
      ((s.pre enc C.prog fn conds apart (w.forCall tape i).memory i.args ∧ X (w.forCall tape i).memory i.args) ∧ sizedMet enc C.prog fn (OpenSpec.ofChange s) apart (w.forCall tape i).memory i.args) ∧ a.holds C.prog (lone (Frame.enter C.prog f i.args .normal) [] (w.forCall tape i)))
    (contract : ∀ (W : World) (base : Nat) (args : Array Value) (ds gs : List (DataW H)) (before : List MemPlace),
      (∀ (j : Nat) t v, fn.params[j]? = some t → args[j]? = some v → Value.okWide C.prog W .any base t v) →
      DataW.Whole enc C.prog fn.params.toList s.vars apart W args.toList ds gs before → X W args → W.ShapedOpen C.prog →
      Calls C.prog f args W fun e W' => ∃ v, e = .returned v ∧ s.post enc C.prog fn apart fresh handsOn again W args v W') :
    ReturnsInHanded a C os f .any (fun w args => (s.pre enc C.prog fn conds apart w args ∧ X w args) ∧ sizedMet enc C.prog fn (OpenSpec.ofChange s) apart w args) (s.post enc C.prog fn apart fresh handsOn again) := by
  refine returnsInHanded_of_calls own started noInit witness ?_
  intro w tape i _ hsh _ hok hpre _
  obtain ⟨_, _, _, fn', hfn', _, _, _, _, hval⟩ := hok
  have e : fn' = fn := Option.some.inj (hfn'.symm.trans hfn)
  subst e
  obtain ⟨⟨⟨ds, gs, before, hw, _⟩, hx⟩, _⟩ := hpre
  refine (contract (w.forCall tape i) w.heap.size i.args ds gs before hval (DataW.Whole.of_heap (w' := w.forCall tape i) (by rfl) hw) (hX _ _ _ (by rfl) hx) hsh).mono fun e W' ⟨v, he, hp⟩ => ?_
  subst he
  exact ChangeSpec.post_blind hp

theorem gU : Tryd.prog.globalNamed "simulcast/layout.unitSize" = some 0 := by kernel_rfl
theorem tU : (Tryd.prog.globals[0]?).map (·.type) = some 59 := by kernel_rfl
theorem cellsI : Tryd.prog.cellsOf 3 = 1 := by kernel_rfl
theorem int_at {W : World} {g n : Nat} {nm : String} {cs : Array Value} {fuel : Nat} {ds : List (DataW Unit)} {p : List MemPlace} {t : TypeId} (hg : Tryd.prog.globalNamed nm = some g) (hv : W.var? Tryd.prog nm = some cs)
    (ht : Tryd.prog.underlying t = some (.array n 3)) (hd : DataW.trod (fun _ => ()) Tryd.prog W 0 (fun _ => true) false fuel t cs.toList = some (.agg ds, p)) (i : Nat) (hi : i < n) (l : Int) (hl : ds[i]? = some (.lit (.int .i64 l))) :
    W.cell? ⟨g, i, none⟩ = some (.int .i64 l) := by
  obtain ⟨f', d, q, h1, h2⟩ := Lib.array_elem ht hd i hi
  rw [cellsI, Nat.mul_one] at h2
  rw [hl] at h1
  cases h1
  obtain ⟨s, hc, hx, -⟩ := DataW.trod_int Tryd.underlying3 h2
  have hs : l = s := by simpa using congrArg Prod.fst hx
  have h3 : cs.toList[i]? = some (.int .i64 s) := by
    have := congrArg (·[0]?) hc
    simpa [List.getElem?_take, List.getElem?_drop] using this
  rw [World.var?_cell hg hv i, ← Array.getElem?_toList, h3, hs]
theorem gl_of {W : World} (h : laidMetH Tryd.prog Rows.layoutChecksRow.laid W) : Gl W := by
  rw [MakeChecks.laidMetH_plain _ _ _ (by kernel_rfl)] at h
  have hK := Lib.laidMet.reads h (n := "simulcast/layout.unitSize") (d := Rows.laid_simulcast_layout_unitSize) (by simp [Rows.layoutChecksRow])
  obtain ⟨g0, t0, cs0, f0, p0, hg0, ht0, hv0, hd0⟩ := hK
  obtain rfl := Option.some.inj (gU.symm.trans hg0)
  obtain rfl := Option.some.inj (tU.symm.trans ht0)
  have hz : ∀ r, r < 7 → W.cell? ⟨0, r, none⟩ = some (.int .i64 (unitZ r)) := by
    intro r hr
    refine int_at gU hv0 Tryd.underlying59 hd0 r hr _ ?_
    rcases (show r = 0 ∨ r = 1 ∨ r = 2 ∨ r = 3 ∨ r = 4 ∨ r = 5 ∨ r = 6 by omega) with rfl | rfl | rfl | rfl | rfl | rfl | rfl <;> rfl
  refine ⟨hz, ?_⟩
  rcases Nat.lt_or_ge 0 W.heap.size with h' | h'
  · exact h'
  · have := hz 0 (by omega)
    simp [World.cell?, Array.getElem?_eq_none h'] at this
theorem laidOut : laidOutB Tryd.prog = true := by kernel_rfl
def I64 (x : Int) : Prop := -9223372036854775808 ≤ x ∧ x < 9223372036854775808
theorem i64_wf {n : Int} (h : (Lit.int .i64 n).wf = true) : -9223372036854775808 ≤ n ∧ n < 9223372036854775808 := by
  have := bounds_i64 h
  omega
theorem list3 {α : Type} {cs : List α} (h : cs.length = 3) : ∃ c0 c1 c2, cs = [c0, c1, c2] := by
  match cs, h with
  | [c0, c1, c2], _ => exact ⟨c0, c1, c2, rfl⟩
section
variable {H : Type} {enc : TypeId × Value → H} {w : World} {base : Nat} {spare : Nat → Bool} {held : Bool}
theorem int_cell {t : TypeId} {k : IntKind} {n : Nat} {c : Value} {x : DataW H × List MemPlace} (ht : Tryd.prog.underlying t = some (.int k)) (h : DataW.trod enc Tryd.prog w base spare held n t [c] = some x) : ∃ N, c = .int k N ∧ (Lit.int k N).wf = true := by
  obtain ⟨N, g1, _, g3⟩ := DataW.trod_int ht h
  simp only [List.cons.injEq, and_true] at g1
  exact ⟨N, g1, g3⟩
theorem lay_cells {n : Nat} {cs : List Value} {x : DataW H × List MemPlace} (h : DataW.trod enc Tryd.prog w base spare held n 23 cs = some x) :
    ∃ a b c : Int, cs = [.int .i64 a, .int .i64 b, .int .i64 c] ∧ I64 a ∧ I64 b ∧ I64 c := by
  obtain ⟨y0, y1, y2, m, _, hl, h0, h1, h2⟩ := trod_struct3 Tryd.underlying23 h
  obtain ⟨c0, c1, c2, rfl⟩ := list3 (hl.trans (by kernel_rfl : Tryd.prog.cellsOf 23 = 3))
  rw [cellsI] at h0 h1 h2
  obtain ⟨a, rfl, ha⟩ := int_cell Tryd.underlying3 h0
  obtain ⟨b, rfl, hb⟩ := int_cell Tryd.underlying3 h1
  obtain ⟨c, rfl, hc⟩ := int_cell Tryd.underlying3 h2
  exact ⟨a, b, c, rfl, i64_wf ha, i64_wf hb, i64_wf hc⟩
end
set_option maxRecDepth 100000 in
theorem open_lay {H : Type} {enc : TypeId × Value → H} {W : World} {v : Value} {d : DataW H} {p : List MemPlace} {r : Reach} {b0 : Nat}
    (hv : Value.okWide Tryd.prog W r b0 23 v) (h : DataW.Trod enc Tryd.prog W 0 (fun _ => true) true 23 v d p) : ∃ a b c : Int, v = LV a b c ∧ I64 a ∧ I64 b ∧ I64 c := by
  obtain ⟨cs, rfl, _⟩ := okWide_struct Tryd.underlying23 hv
  obtain ⟨fuel, hf⟩ := h
  obtain ⟨a, b, c, e, hs⟩ := lay_cells hf
  refine ⟨a, b, c, ?_, hs⟩
  simp only [Value.cells] at e
  rw [← Array.toArray_toList (xs := cs), e]
end Go.Proofs.YtgndlknlahglcaaDoor
