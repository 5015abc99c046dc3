/- What the rows list of the package-level variables, read as the walks want it; the wrap of a listed row that keeps the world's shape. -/
import Derived.Test.YtpgcnejofnhhfaaDoorGlob
import Derived.Test.YtpgcnejofnhhfaaDoorTie
import Derived.Test.YtpgcnejofnhhfaaDoorCards
import Derived.ProofKit
import Derived.LaidMore
import Derived.OpenShut
import Derived.Stop.Joined
import Derived.Stop.LaidErr
import Derived.SevenTiedAt
import Derived.Lay
import Derived.LaidOnce
import Derived.Lib.LaidU8
import Derived.Lib.SmallJoins
namespace Go.Proofs.YtpgcnejofnhhfaaDoor
open Go Go.ChangeShapes Go.WideShapes Go.ChangeAt Go.RowKit Go.Joins

theorem returns_listed {H : Type} {enc : TypeId × Value → H} {a : Assume} {C : Checked} {os : Os} {f : FuncId} {fn : Func} {s : ChangeSpec} {conds : List PathCond} {apart fresh handsOn again : Bool} {X : World → Array Value → Prop}
    (hX : ∀ (w w' : World) (args : Array Value), w.heap = w'.heap → X w args → X w' args)
    (own : ownKnob C.prog.godebug = none) (started : os.Started) (noInit : C.prog.inits.idxOf? f = none) (hfn : C.prog.funcs[f]? = some fn)
    (witness : ∃ (w : World) (tape : Tape) (i : Input), w.os = os ∧ (w.forCall tape i).Shaped C.prog ∧ i.vars = [] ∧ Input.okWide C.prog (w.forCall tape i) .any w.heap.size f i ∧
      ((s.pre enc C.prog fn conds apart (w.forCall tape i).memory i.args ∧ X (w.forCall tape i).memory i.args) ∧ sizedMet enc C.prog fn (OpenSpec.ofChange s) apart (w.forCall tape i).memory i.args) ∧ a.holds C.prog (lone (Frame.enter C.prog f i.args .normal) [] (w.forCall tape i)))
    (contract : ∀ (W : World) (base : Nat) (args : Array Value) (ds gs : List (DataW H)) (before : List MemPlace),
      (∀ (j : Nat) t v, fn.params[j]? = some t → args[j]? = some v → Value.okWide C.prog W .any base t v) →
      DataW.Whole enc C.prog fn.params.toList s.vars apart W args.toList ds gs before → X W args → W.ShapedOpen C.prog →
      Calls C.prog f args W fun e W' => ∃ v, e = .returned v ∧ s.post enc C.prog fn apart fresh handsOn again W args v W') :
    ReturnsInHanded a C os f .any (fun w args => (s.pre enc C.prog fn conds apart w args ∧ X w args) ∧ sizedMet enc C.prog fn (OpenSpec.ofChange s) apart w args) (s.post enc C.prog fn apart fresh handsOn again) := by
  refine returnsInHanded_of_calls own started noInit witness ?_
  intro w tape i _ hsh _ hok hpre _
  obtain ⟨_, _, _, fn', hfn', _, _, _, _, hval⟩ := hok
  have e : fn' = fn := Option.some.inj (hfn'.symm.trans hfn)
  subst e
  obtain ⟨⟨⟨ds, gs, before, hw, _⟩, hx⟩, _⟩ := hpre
  refine (contract (w.forCall tape i) w.heap.size i.args ds gs before hval (DataW.Whole.of_heap (w' := w.forCall tape i) (by rfl) hw) (hX _ _ _ (by rfl) hx) hsh).mono fun e W' ⟨v, he, hp⟩ => ?_
  subst he
  exact ChangeSpec.post_blind hp

theorem gK : Tryd.prog.globalNamed "simulcast/sched.keywords" = some 0 := by kernel_rfl
theorem gS : Tryd.prog.globalNamed "strconv.ErrSyntax" = some 2 := by kernel_rfl
theorem gR : Tryd.prog.globalNamed "strconv.ErrRange" = some 3 := by kernel_rfl
theorem gB : Tryd.prog.globalNamed "math/bits.deBruijn64tab" = some 8 := by kernel_rfl
theorem tK : (Tryd.prog.globals[0]?).map (·.type) = some 81 := by kernel_rfl
theorem tS : (Tryd.prog.globals[2]?).map (·.type) = some 86 := by kernel_rfl
theorem tR : (Tryd.prog.globals[3]?).map (·.type) = some 86 := by kernel_rfl
theorem tB : (Tryd.prog.globals[8]?).map (·.type) = some 132 := by kernel_rfl
theorem cells9 : Tryd.prog.cellsOf 9 = 1 := by kernel_rfl
theorem cells5 : Tryd.prog.cellsOf 5 = 1 := by kernel_rfl

theorem iface_at {W : World} {n nm : String} {d : DataW Unit} {g : Nat} (h : Lib.VarReads Tryd.prog W n (.iface nm d)) (hg : Tryd.prog.globalNamed n = some g) (ht : (Tryd.prog.globals[g]?).map (·.type) = some 86) :
    ∃ e, W.cell? ⟨g, 0, none⟩ = some e ∧ (e = .nilIface ∨ ∃ te pe, e = .iface te pe) := by
  obtain ⟨g0, t0, cs0, f0, p0, hg0, ht0, hv0, hd0⟩ := h
  obtain rfl := Option.some.inj (hg.symm.trans hg0)
  obtain rfl := Option.some.inj (ht.symm.trans ht0)
  obtain ⟨f1, u, v, hc, -, -⟩ := iface_of_trod Tryd.underlying86 hd0
  have hcell := World.var?_cell hg0 hv0 0
  obtain ⟨l0⟩ := cs0
  simp only at hc
  subst hc
  have hc2 : W.cell? ⟨g, 0, none⟩ = some (.iface u v) := by simpa using hcell
  exact ⟨_, hc2, .inr ⟨_, _, rfl⟩⟩
theorem str_cell {W : World} {g n : Nat} {nm : String} {cs : Array Value} {fuel : Nat} {ds : List (DataW Unit)} {p : List MemPlace} {t : TypeId} (hg : Tryd.prog.globalNamed nm = some g) (hv : W.var? Tryd.prog nm = some cs)
    (ht : Tryd.prog.underlying t = some (.array n 9)) (hd : DataW.trod (fun _ => ()) Tryd.prog W 0 (fun _ => true) false fuel t cs.toList = some (.agg ds, p)) (i : Nat) (hi : i < n) (l : List UInt8) (hl : ds[i]? = some (.lit (.string l))) :
    W.cell? ⟨g, i, none⟩ = some (.string ⟨l.toArray⟩) := by
  obtain ⟨f', d, q, h1, h2⟩ := Lib.array_elem ht hd i hi
  rw [cells9, Nat.mul_one] at h2
  rw [hl] at h1
  cases h1
  obtain ⟨s, hc, hx, -⟩ := DataW.trod_string Tryd.underlying9 h2
  have hs : l = s.data.toList := by simpa using congrArg Prod.fst hx
  have h3 : cs.toList[i]? = some (.string s) := by
    have := congrArg (·[0]?) hc
    simpa [List.getElem?_take, List.getElem?_drop] using this
  rw [World.var?_cell hg hv i, ← Array.getElem?_toList, h3, hs]
theorem u8_cell {W : World} {g n : Nat} {nm : String} {cs : Array Value} {fuel : Nat} {ds : List (DataW Unit)} {p : List MemPlace} {t : TypeId} (hg : Tryd.prog.globalNamed nm = some g) (hv : W.var? Tryd.prog nm = some cs)
    (ht : Tryd.prog.underlying t = some (.array n 5)) (hd : DataW.trod (fun _ => ()) Tryd.prog W 0 (fun _ => true) false fuel t cs.toList = some (.agg ds, p)) (hi : 0 < n) : g < W.heap.size := by
  obtain ⟨f', d, q, h1, h2⟩ := Lib.array_elem ht hd 0 hi
  rw [cells5] at h2
  obtain ⟨s, hc, -, -⟩ := DataW.trod_int Tryd.underlying5 h2
  have h3 : cs.toList[0]? = some (.int .u8 s) := by
    have := congrArg (·[0]?) hc
    simpa [List.getElem?_take, List.getElem?_drop] using this
  have h4 : W.cell? ⟨g, 0, none⟩ = some (.int .u8 s) := by rw [World.var?_cell hg hv 0, ← Array.getElem?_toList, h3]
  rcases Nat.lt_or_ge g W.heap.size with h | h
  · exact h
  · exfalso
    simp [World.cell?, Array.getElem?_eq_none h] at h4
theorem gl_of {W : World} (h : laidMetH Tryd.prog Rows.schedFairRow.laid W) (hs : W.ShapedOpen Tryd.prog) : Gl W := by
  rw [MakeChecks.laidMetH_plain _ _ _ (by kernel_rfl)] at h
  have rd := fun n d hm => Lib.laidMet.reads h (n := n) (d := d) hm
  have hK := rd "simulcast/sched.keywords" Rows.laid_simulcast_sched_keywords (by simp [Rows.schedFairRow])
  have hS := rd "strconv.ErrSyntax" Rows.laid_strconv_ErrSyntax (by simp [Rows.schedFairRow])
  have hR := rd "strconv.ErrRange" Rows.laid_strconv_ErrRange (by simp [Rows.schedFairRow])
  have hB := rd "math/bits.deBruijn64tab" Rows.laid_math_bits_deBruijn64tab (by simp [Rows.schedFairRow])
  obtain ⟨g0, t0, cs0, f0, p0, hg0, ht0, hv0, hd0⟩ := hK
  obtain rfl := Option.some.inj (gK.symm.trans hg0)
  obtain rfl := Option.some.inj (tK.symm.trans ht0)
  obtain ⟨g1, t1, cs1, f1, p1, hg1, ht1, hv1, hd1⟩ := hB
  obtain rfl := Option.some.inj (gB.symm.trans hg1)
  obtain rfl := Option.some.inj (tB.symm.trans ht1)
  refine ⟨str_cell gK hv0 Tryd.underlying81 hd0 0 (by decide) _ rfl, str_cell gK hv0 Tryd.underlying81 hd0 1 (by decide) _ rfl, str_cell gK hv0 Tryd.underlying81 hd0 2 (by decide) _ rfl, Tryd.laysM146.s1_3 W hs, iface_at hS gS tS, iface_at hR gR tR, u8_cell gB hv1 Tryd.underlying132 hd1 (by decide)⟩
end Go.Proofs.YtpgcnejofnhhfaaDoor
