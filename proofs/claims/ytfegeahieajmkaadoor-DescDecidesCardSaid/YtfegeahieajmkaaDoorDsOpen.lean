/- What the rows list of the package-level variable, read as the walks want it; the wrap of a listed row; the arguments opened. -/
import Derived.Test.YtfegeahieajmkaaDoorDsFirst
import Derived.Test.YtfegeahieajmkaaDoorTie
import Derived.Test.YtfegeahieajmkaaDoorCards
import Derived.LaidMore
import Derived.Stop.Joined
import Derived.Stop.LaidErr
import Derived.SevenTiedAt
import Derived.Lay
import Derived.LaidOnce
import Derived.Lib.LaidU8
import Derived.Lib.SmallJoins
import Derived.Laws.IdiomArrays
namespace Go.Proofs.YtfegeahieajmkaaDoor
open Go Go.ChangeShapes Go.WideShapes Go.ChangeAt Go.RowKit Go.Joins Go.Deep
theorem returns_listed {H : Type} {enc : TypeId × Value → H} {a : Assume} {C : Checked} {os : Os} {f : FuncId} {fn : Func} {s : ChangeSpec} {conds : List PathCond} {apart fresh handsOn again : Bool} {X : World → Array Value → Prop}
    (hX : ∀ (w w' : World) (args : Array Value), w.heap = w'.heap → X w args → X w' args)
    (own : ownKnob C.prog.godebug = none) (started : os.Started) (noInit : C.prog.inits.idxOf? f = none) (hfn : C.prog.funcs[f]? = some fn)
    (witness : ∃ (w : World) (tape : Tape) (i : Input), w.os = os ∧ (w.forCall tape i).Shaped C.prog ∧ i.vars = [] ∧ Input.okWide C.prog (w.forCall tape i) .any w.heap.size f i ∧
      ((s.pre enc C.prog fn conds apart (w.forCall tape i).memory i.args ∧ X (w.forCall tape i).memory i.args) ∧ sizedMet enc C.prog fn (OpenSpec.ofChange s) apart (w.forCall tape i).memory i.args) ∧ a.holds C.prog (lone (Frame.enter C.prog f i.args .normal) [] (w.forCall tape i)))
    (contract : ∀ (W : World) (base : Nat) (args : Array Value) (ds gs : List (DataW H)) (before : List MemPlace),
      (∀ (j : Nat) t v, fn.params[j]? = some t → args[j]? = some v → Value.okWide C.prog W .any base t v) →
      DataW.Whole enc C.prog fn.params.toList s.vars apart W args.toList ds gs before → X W args → W.ShapedOpen C.prog →
      Calls C.prog f args W fun e W' => ∃ v, e = .returned v ∧ s.post enc C.prog fn apart fresh handsOn again W args v W') :
    ReturnsInHanded a C os f .any (fun w args => (s.pre enc C.prog fn conds apart w args ∧ X w args) ∧ sizedMet enc C.prog fn (OpenSpec.ofChange s) apart w args) (s.post enc C.prog fn apart fresh handsOn again) := by
  refine returnsInHanded_of_calls own started noInit witness ?_
  intro w tape i _ hsh _ hok hpre _
  obtain ⟨_, _, _, fn', hfn', _, _, _, _, hval⟩ := hok
  have e : fn' = fn := Option.some.inj (hfn'.symm.trans hfn)
  subst e
  obtain ⟨⟨⟨ds, gs, before, hw, _⟩, hx⟩, _⟩ := hpre
  refine (contract (w.forCall tape i) w.heap.size i.args ds gs before hval (DataW.Whole.of_heap (w' := w.forCall tape i) (by rfl) hw) (hX _ _ _ (by rfl) hx) hsh).mono fun e W' ⟨v, he, hp⟩ => ?_
  subst he
  exact ChangeSpec.post_blind hp
theorem gU : Tryd.prog.globalNamed "simulcast/layout.unitSize" = some 0 := by kernel_rfl
theorem tU : (Tryd.prog.globals[0]?).map (·.type) = some 102 := by kernel_rfl
theorem cellsI : Tryd.prog.cellsOf 3 = 1 := by kernel_rfl
theorem int_at {W : World} {g n : Nat} {nm : String} {cs : Array Value} {fuel : Nat} {ds : List (DataW Unit)} {p : List MemPlace} {t : TypeId} (hg : Tryd.prog.globalNamed nm = some g) (hv : W.var? Tryd.prog nm = some cs)
    (ht : Tryd.prog.underlying t = some (.array n 3)) (hd : DataW.trod (fun _ => ()) Tryd.prog W 0 (fun _ => true) false fuel t cs.toList = some (.agg ds, p)) (i : Nat) (hi : i < n) (l : Int) (hl : ds[i]? = some (.lit (.int .i64 l))) :
    W.cell? ⟨g, i, none⟩ = some (.int .i64 l) := by
  obtain ⟨f', d, q, h1, h2⟩ := Lib.array_elem ht hd i hi
  rw [cellsI, Nat.mul_one] at h2
  rw [hl] at h1
  cases h1
  obtain ⟨s, hc, hx, -⟩ := DataW.trod_int Tryd.underlying3 h2
  have hs : l = s := by simpa using congrArg Prod.fst hx
  have h3 : cs.toList[i]? = some (.int .i64 s) := by
    have := congrArg (·[0]?) hc
    simpa [List.getElem?_take, List.getElem?_drop] using this
  rw [World.var?_cell hg hv i, ← Array.getElem?_toList, h3, hs]
theorem gl_of {W : World} (h : laidMetH Tryd.prog Rows.descPacksRow.laid W) : Lay.Gl W := by
  rw [MakeChecks.laidMetH_plain _ _ _ (by kernel_rfl)] at h
  have hK := Lib.laidMet.reads h (n := "simulcast/layout.unitSize") (d := Rows.laid_simulcast_layout_unitSize) (by simp [Rows.descPacksRow])
  obtain ⟨g0, t0, cs0, f0, p0, hg0, ht0, hv0, hd0⟩ := hK
  obtain rfl := Option.some.inj (gU.symm.trans hg0)
  obtain rfl := Option.some.inj (tU.symm.trans ht0)
  have hz : ∀ r, r < 7 → W.cell? ⟨0, r, none⟩ = some (.int .i64 (Lay.unitZ r)) := by
    intro r hr
    refine int_at gU hv0 Tryd.underlying102 hd0 r hr _ ?_
    rcases (show r = 0 ∨ r = 1 ∨ r = 2 ∨ r = 3 ∨ r = 4 ∨ r = 5 ∨ r = 6 by omega) with rfl | rfl | rfl | rfl | rfl | rfl | rfl <;> rfl
  refine ⟨hz, ?_⟩
  rcases Nat.lt_or_ge 0 W.heap.size with h' | h'
  · exact h'
  · have := hz 0 (by omega)
    simp [World.cell?, Array.getElem?_eq_none h'] at this
theorem laidOut : laidOutB Tryd.prog = true := by kernel_rfl
def I64 (x : Int) : Prop := -9223372036854775808 ≤ x ∧ x < 9223372036854775808
theorem list2 {α : Type} {cs : List α} (h : cs.length = 2) : ∃ c0 c1, cs = [c0, c1] := by
  match cs, h with
  | [c0, c1], _ => exact ⟨c0, c1, rfl⟩
theorem list3 {α : Type} {cs : List α} (h : cs.length = 3) : ∃ c0 c1 c2, cs = [c0, c1, c2] := by
  match cs, h with
  | [c0, c1, c2], _ => exact ⟨c0, c1, c2, rfl⟩
theorem list4 {α : Type} {cs : List α} (h : cs.length = 4) : ∃ c0 c1 c2 c3, cs = [c0, c1, c2, c3] := by
  match cs, h with
  | [c0, c1, c2, c3], _ => exact ⟨c0, c1, c2, c3, rfl⟩
theorem list6 {α : Type} {cs : List α} (h : cs.length = 6) : ∃ c0 c1 c2 c3 c4 c5, cs = [c0, c1, c2, c3, c4, c5] := by
  match cs, h with
  | [c0, c1, c2, c3, c4, c5], _ => exact ⟨c0, c1, c2, c3, c4, c5, rfl⟩
theorem list9 {α : Type} {cs : List α} (h : cs.length = 9) : ∃ c0 c1 c2 c3 c4 c5 c6 c7 c8, cs = [c0, c1, c2, c3, c4, c5, c6, c7, c8] := by
  match cs, h with
  | [c0, c1, c2, c3, c4, c5, c6, c7, c8], _ => exact ⟨c0, c1, c2, c3, c4, c5, c6, c7, c8, rfl⟩
section
variable {H : Type} {enc : TypeId × Value → H} {P : Program} {w : World} {base : Nat} {spare : Nat → Bool} {held : Bool}
theorem trod_arr {fuel : Nat} {t e : TypeId} {n : Nat} {cs : List Value} {x : DataW H × List MemPlace} (ht : P.underlying t = some (.array n e)) (h : DataW.trod enc P w base spare held fuel t cs = some x) : cs.length = P.cellsOf t ∧ ∀ i, i < n → ∃ m y, DataW.trod enc P w base spare held m e ((cs.drop (i * P.cellsOf e)).take (P.cellsOf e)) = some y := by
  cases fuel with
  | zero => simp [DataW.trod] at h
  | succ fuel =>
    simp only [DataW.trod, ht] at h
    split at h
    · rename_i hl
      obtain ⟨xs, hm, hx⟩ := Option.map_eq_some_iff.1 h
      refine ⟨hl, fun i hi => ?_⟩
      obtain ⟨b, hb, hf⟩ := Lib.mapM_at hm i i (by simp [hi])
      exact ⟨fuel, b, hf⟩
    · cases h
theorem okWide_array {r : Reach} {b0 : Nat} {t e : TypeId} {n : Nat} {v : Value} (ht : P.underlying t = some (.array n e)) (h : Value.okWide P w r b0 t v) : ∃ cs, v = .agg cs ∧ cs.size = P.cellsOf t := by
  simp only [Value.okWide, ht] at h
  obtain ⟨cs, h1, h2, _⟩ := h
  exact ⟨cs, h1, h2⟩
theorem word_cells {n : Nat} {cs : List Value} {x : DataW H × List MemPlace} (h : DataW.trod enc Tryd.prog w base spare held n 47 cs = some x) : ∃ o : Wd, cs = wdE.enc o ∧ OkW o := by
  obtain ⟨y0, y1, y2, m, _, hl, h0, h1, h2⟩ := trod_struct3 Tryd.underlying47 h
  obtain ⟨c0, c1, c2, rfl⟩ := list3 (hl.trans (by kernel_rfl : Tryd.prog.cellsOf 47 = 3))
  rw [(by kernel_rfl : Tryd.prog.cellsOf 2 = 1)] at h0
  rw [(by kernel_rfl : Tryd.prog.cellsOf 45 = 1)] at h1 h2
  obtain ⟨a, rfl, ha⟩ := int_cellK Tryd.underlying2 h0
  obtain ⟨b, rfl, hb⟩ := int_cellK Tryd.underlying45 h1
  obtain ⟨c, rfl, hc⟩ := int_cellK Tryd.underlying45 h2
  have h4 : 0 ≤ b ∧ b < 4294967296 := by have := bounds_u32 hb; omega
  have h5 : 0 ≤ c ∧ c < 4294967296 := by have := bounds_u32 hc; omega
  exact ⟨(a, b, c), rfl, i64_wf ha, h4, h5⟩
theorem bool_cellK {t : TypeId} {n : Nat} {c : Value} {x : DataW H × List MemPlace} (ht : Tryd.prog.underlying t = some .bool) (h : DataW.trod enc Tryd.prog w base spare held n t [c] = some x) : ∃ b, c = .bool b := by
  obtain ⟨b, g1, _⟩ := DataW.trod_bool ht h
  simp only [List.cons.injEq, and_true] at g1
  exact ⟨b, g1⟩
theorem ent_cells {n : Nat} {cs : List Value} {x : DataW H × List MemPlace} (h : DataW.trod enc Tryd.prog w base spare held n 49 cs = some x) : ∃ o : En, cs = enE.enc o ∧ OkE o := by
  obtain ⟨y0, y1, y2, y3, m, _, hl, h0, h1, h2, h3⟩ := trod_struct4 Tryd.underlying49 h
  obtain ⟨c0, c1, c2, c3, c4, c5, rfl⟩ := list6 (hl.trans (by kernel_rfl : Tryd.prog.cellsOf 49 = 6))
  rw [(by kernel_rfl : Tryd.prog.cellsOf 44 = 1)] at h0
  rw [(by kernel_rfl : Tryd.prog.cellsOf 47 = 3)] at h1
  rw [(by kernel_rfl : Tryd.prog.cellsOf 2 = 1)] at h2
  rw [(by kernel_rfl : Tryd.prog.cellsOf 4 = 1)] at h3
  obtain ⟨a, rfl, ha⟩ := int_cellK Tryd.underlying44 h0
  obtain ⟨o, ho, hw⟩ := word_cells h1
  obtain ⟨z, rfl, hz⟩ := int_cellK Tryd.underlying2 h2
  obtain ⟨b, rfl⟩ := bool_cellK Tryd.underlying4 h3
  have e1 : c1 = .int .i64 o.1 ∧ c2 = .int .u32 o.2.1 ∧ c3 = .int .u32 o.2.2 := by
    have : [c1, c2, c3] = [.int .i64 o.1, .int .u32 o.2.1, .int .u32 o.2.2] := ho
    simpa using this
  obtain ⟨rfl, rfl, rfl⟩ := e1
  exact ⟨(a, o, z, b), rfl, i64_wf ha, hw, i64_wf hz⟩
end
set_option maxRecDepth 100000 in
theorem open_ent {H : Type} {enc : TypeId × Value → H} {W : World} {v : Value} {d : DataW H} {p : List MemPlace} {r : Reach} {b0 : Nat}
    (hv : Value.okWide Tryd.prog W r b0 49 v) (h : DataW.Trod enc Tryd.prog W 0 (fun _ => true) true 49 v d p) : ∃ e, v = enV e ∧ OkE e := by
  obtain ⟨cs, rfl, _⟩ := okWide_struct Tryd.underlying49 hv
  obtain ⟨fuel, hf⟩ := h
  obtain ⟨e, he, ho⟩ := ent_cells hf
  simp only [Value.cells] at he
  refine ⟨e, ?_, ho⟩
  rw [← Array.toArray_toList (xs := cs), he]
  rfl
set_option maxRecDepth 100000 in
theorem open_three {H : Type} {enc : TypeId × Value → H} {W : World} {v : Value} {d : DataW H} {p : List MemPlace} {r : Reach} {b0 : Nat}
    (hv : Value.okWide Tryd.prog W r b0 66 v) (h : DataW.Trod enc Tryd.prog W 0 (fun _ => true) true 66 v d p) : ∃ a b c, v = w3V a b c ∧ OkW a ∧ OkW b ∧ OkW c := by
  obtain ⟨cs, rfl, _⟩ := okWide_array Tryd.underlying66 hv
  obtain ⟨fuel, hf⟩ := h
  simp only [Value.cells] at hf
  obtain ⟨hl, hall⟩ := trod_arr Tryd.underlying66 hf
  obtain ⟨c0, c1, c2, c3, c4, c5, c6, c7, c8, hcs⟩ := list9 (hl.trans (by kernel_rfl : Tryd.prog.cellsOf 66 = 9))
  rw [hcs, (by kernel_rfl : Tryd.prog.cellsOf 47 = 3)] at hall
  obtain ⟨_, _, h0⟩ := hall 0 (by omega)
  obtain ⟨_, _, h1⟩ := hall 1 (by omega)
  obtain ⟨_, _, h2⟩ := hall 2 (by omega)
  obtain ⟨a, ha, oa⟩ := word_cells h0
  obtain ⟨b, hb, ob⟩ := word_cells h1
  obtain ⟨c, hc, oc⟩ := word_cells h2
  have ea : [c0, c1, c2] = [.int .i64 a.1, .int .u32 a.2.1, .int .u32 a.2.2] := ha
  have eb : [c3, c4, c5] = [.int .i64 b.1, .int .u32 b.2.1, .int .u32 b.2.2] := hb
  have ec : [c6, c7, c8] = [.int .i64 c.1, .int .u32 c.2.1, .int .u32 c.2.2] := hc
  simp only [List.cons.injEq, and_true] at ea eb ec
  obtain ⟨rfl, rfl, rfl⟩ := ea
  obtain ⟨rfl, rfl, rfl⟩ := eb
  obtain ⟨rfl, rfl, rfl⟩ := ec
  refine ⟨a, b, c, ?_, oa, ob, oc⟩
  rw [← Array.toArray_toList (xs := cs), hcs]
  rfl
set_option maxRecDepth 100000 in
theorem open_q {H : Type} {enc : TypeId × Value → H} {W : World} {v : Value} {d : DataW H} {p : List MemPlace} {r : Reach} {b0 : Nat}
    (hv : Value.okWide Tryd.prog W r b0 22 v) (h : DataW.Trod enc Tryd.prog W 0 (fun _ => true) true 22 v d p) : ∃ a b c : Nat, v = .agg #[.int .u8 a, .int .u8 b, .int .u8 c] ∧ a < 256 ∧ b < 256 ∧ c < 256 := by
  obtain ⟨cs, rfl, _⟩ := okWide_array Tryd.underlying22 hv
  obtain ⟨fuel, hf⟩ := h
  simp only [Value.cells] at hf
  obtain ⟨hl, hall⟩ := trod_arr Tryd.underlying22 hf
  obtain ⟨c0, c1, c2, hcs⟩ := list3 (hl.trans (by kernel_rfl : Tryd.prog.cellsOf 22 = 3))
  rw [hcs, (by kernel_rfl : Tryd.prog.cellsOf 5 = 1)] at hall
  obtain ⟨_, _, h0⟩ := hall 0 (by omega)
  obtain ⟨_, _, h1⟩ := hall 1 (by omega)
  obtain ⟨_, _, h2⟩ := hall 2 (by omega)
  obtain ⟨a, ha, oa⟩ := int_cellK Tryd.underlying5 (c := c0) h0
  obtain ⟨b, hb, ob⟩ := int_cellK Tryd.underlying5 (c := c1) h1
  obtain ⟨c, hc, oc⟩ := int_cellK Tryd.underlying5 (c := c2) h2
  subst ha hb hc
  have h3 := bounds_u8 oa
  have h4 := bounds_u8 ob
  have h5 := bounds_u8 oc
  refine ⟨a.toNat, b.toNat, c.toNat, ?_, by omega, by omega, by omega⟩
  rw [← Array.toArray_toList (xs := cs), hcs, show ((a.toNat : Nat) : Int) = a by omega, show ((b.toNat : Nat) : Int) = b by omega, show ((c.toNat : Nat) : Int) = c by omega]
set_option maxRecDepth 100000 in
theorem open_two {H : Type} {enc : TypeId × Value → H} {W : World} {v : Value} {d : DataW H} {p : List MemPlace} {r : Reach} {b0 : Nat}
    (hv : Value.okWide Tryd.prog W r b0 80 v) (h : DataW.Trod enc Tryd.prog W 0 (fun _ => true) true 80 v d p) : ∃ a b : Int, v = .agg #[.int .i64 a, .int .i64 b] ∧ I64 a ∧ I64 b := by
  obtain ⟨cs, rfl, _⟩ := okWide_array Tryd.underlying80 hv
  obtain ⟨fuel, hf⟩ := h
  simp only [Value.cells] at hf
  obtain ⟨hl, hall⟩ := trod_arr Tryd.underlying80 hf
  obtain ⟨c0, c1, hcs⟩ := list2 (hl.trans (by kernel_rfl : Tryd.prog.cellsOf 80 = 2))
  rw [hcs, (by kernel_rfl : Tryd.prog.cellsOf 3 = 1)] at hall
  obtain ⟨_, _, h0⟩ := hall 0 (by omega)
  obtain ⟨_, _, h1⟩ := hall 1 (by omega)
  obtain ⟨a, ha, oa⟩ := int_cellK Tryd.underlying3 (c := c0) h0
  obtain ⟨b, hb, ob⟩ := int_cellK Tryd.underlying3 (c := c1) h1
  subst ha hb
  refine ⟨a, b, ?_, i64_wf oa, i64_wf ob⟩
  rw [← Array.toArray_toList (xs := cs), hcs]
set_option maxRecDepth 100000 in
theorem open_desc {H : Type} {enc : TypeId × Value → H} {W : World} {v : Value} {d : DataW H} {p : List MemPlace} {r : Reach} {b0 : Nat}
    (hv : Value.okWide Tryd.prog W r b0 25 v) (h : DataW.Trod enc Tryd.prog W 0 (fun _ => true) true 25 v d p) : ∃ a b c u L, v = .agg #[.int .i64 a, .int .i64 b, .int .i64 c, u] ∧ I64 a ∧ I64 b ∧ I64 c ∧ ES W u L ∧ (∀ e ∈ L, OkE e) ∧ L.length ≤ maxLen := by
  obtain ⟨cs, rfl, _⟩ := okWide_struct Tryd.underlying25 hv
  obtain ⟨fuel, hf⟩ := h
  simp only [Value.cells] at hf
  obtain ⟨y0, y1, y2, y3, m, _, hl, h0, h1, h2, h3⟩ := trod_struct4 Tryd.underlying25 hf
  obtain ⟨c0, c1, c2, c3, hcs⟩ := list4 (hl.trans (by kernel_rfl : Tryd.prog.cellsOf 25 = 4))
  rw [hcs] at h0 h1 h2 h3
  rw [(by kernel_rfl : Tryd.prog.cellsOf 3 = 1)] at h0 h1 h2
  rw [(by kernel_rfl : Tryd.prog.cellsOf 23 = 1)] at h3
  obtain ⟨a, ha, oa⟩ := int_cellK Tryd.underlying3 (c := c0) h0
  obtain ⟨b, hb, ob⟩ := int_cellK Tryd.underlying3 (c := c1) h1
  obtain ⟨c, hc, oc⟩ := int_cellK Tryd.underlying3 (c := c2) h2
  obtain ⟨ua, un, uc, L, hu, hs, hL⟩ := open_cells (E := enE) (Ok := OkE) Tryd.underlying23 (by kernel_rfl : Tryd.prog.cellsOf 49 = 6) (fun n cs x h => ent_cells h) h3
  simp at hu
  subst ha hb hc hu
  refine ⟨a, b, c, _, L, ?_, i64_wf oa, i64_wf ob, i64_wf oc, hs, hL.1, hL.2⟩
  rw [← Array.toArray_toList (xs := cs), hcs]
end Go.Proofs.YtfegeahieajmkaaDoor
