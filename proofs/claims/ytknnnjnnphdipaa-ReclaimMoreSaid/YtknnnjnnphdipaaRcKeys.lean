/- A map keyed by items; the items of an argument with their bounds. -/
import Derived.Test.YtknnnjnnphdipaaRcSweeps
import Derived.Test.YtknnnjnnphdipaaRcArgs
import Derived.DeepKeys4
import Derived.Maps.Keyed
namespace Go.Proofs.Ytknnnjnnphdipaa
open Go.Joins Go.ChangeShapes Go.WideShapes Go.ChangeAt Go.RowKit Go.Maps Go.Deep
def I643 (x : It) : Prop := I64 x.1 ∧ I64 x.2.1 ∧ I64 x.2.2
theorem law26 : Keyed Try.prog 26 := Keyed.of_law (deep_law_laid laidOut (m := 3) (by omega) (of_decide_eq_true (by kernel_rfl)) (by kernel_rfl) (by kernel_rfl))
theorem keyType26 : Try.prog.keyType 26 = true := by kernel_rfl
def keyJ (x : It) : Lit := .string (keyBytes [.int .i64 x.1, .int .i64 x.2.1, .int .i64 x.2.2])
theorem key26 (x : It) (h : I643 x) : keyOf Try.prog 26 (itV x) = some (keyJ x) := by
  obtain ⟨a, b, c⟩ := h
  unfold I64 at a b c
  have h1 : (Lit.int .i64 x.1).wf = true := WalkArith.wf_i64 (by omega)
  have h2 : (Lit.int .i64 x.2.1).wf = true := WalkArith.wf_i64 (by omega)
  have h3 : (Lit.int .i64 x.2.2).wf = true := WalkArith.wf_i64 (by omega)
  have hsz : ∃ m, Try.prog.types.size + 1 = m + 1 + 1 := ⟨Try.prog.types.size - 1, by have : 0 < Try.prog.types.size := of_decide_eq_true (by kernel_rfl); omega⟩
  obtain ⟨m, hm⟩ := hsz
  have hc : Try.prog.cellsOf 26 = 3 := by kernel_rfl
  have hi3 : Try.prog.cellsOf 3 = 1 := by kernel_rfl
  have hi2 : Try.prog.cellsOf 2 = 1 := by kernel_rfl
  unfold keyOf
  rw [Try.underlying26, keyType26, hm]
  simp [itV, Value.formed, Try.underlying26, hc, Program.keyLits, Try.underlying3, Try.underlying2, hi3, hi2, h1, h2, h3, Value.cells, keyJ]
theorem keyJ_ok (x : It) : WideAt.IsKeyLit (keyJ x) := trivial
theorem keyJ_inj {x y : It} (hx : I643 x) (hy : I643 y) (h : keyJ x = keyJ y) : x = y := by
  have h1 := key26 x hx
  rw [h] at h1
  have := law26.inj h1 (key26 y hy)
  obtain ⟨a, b, c⟩ := x
  obtain ⟨a', b', c'⟩ := y
  simp [itV] at this
  simp [this]
def inI (S : List It) (x : It) : Bool := S.any (fun y => eqI y x)
theorem inI_iff (S : List It) (x : It) : inI S x = true ↔ x ∈ S := by
  unfold inI
  simp only [List.any_eq_true, eqI_iff]
  constructor
  · rintro ⟨y, h, rfl⟩; exact h
  · intro h; exact ⟨x, h, rfl⟩
theorem inI_app (S : List It) (x y : It) : inI (S ++ [x]) y = (inI S y || eqI x y) := by simp [inI]
/-- The map in block b says true of the items of S. -/
def MapI (w : World) (b n : Nat) (S : List It) : Prop :=
  ∃ D, w.ownsMap Try.prog 26 (plainElem (H := Unit) Try.prog 4) b n D ∧ IsMap D ∧ ∀ x, I643 x → D.atKey (keyJ x) (.lit (.bool false)) = .lit (.bool (inI S x))
theorem MapI.made (w : World) : MapI (w.alloc (.map #[] 0)) w.heap.size 0 [] := ⟨_, World.ownsMap_made w Try.prog 26 _, ⟨[], rfl⟩, fun _ _ => rfl⟩
theorem MapI.below {w w1 : World} {b n : Nat} {S : List It} (h : MapI w b n S) (hb : Below w.heap.size w w1) : MapI w1 b n S := by
  obtain ⟨D, h1, h2⟩ := h
  exact ⟨D, owns_below h1 hb, h2⟩
theorem MapI.look {w : World} {b n : Nat} {S : List It} (h : MapI w b n S) (x : It) (hx : I643 x) : (Instr.lookup 52 (.map (some b)) (itV x) false).run Try.prog w = .ok (.bool (inI S x)) w := by
  obtain ⟨D, h1, h2, h3⟩ := h
  obtain ⟨v, ps, hrun, hv⟩ := h1.lookup law26 Try.underlying52 (zeroB w) (plainElem_bool Try.underlying4 false) (key26 x hx)
  rw [h3 x hx] at hv
  have : v = .bool (inI S x) := by
    unfold plainElem at hv
    rw [Try.underlying4] at hv
    cases v <;> simp at hv
    rw [hv.1]
  rw [this] at hrun
  exact hrun
theorem wpList_markI (w : World) {ops : Array Oper} {rest : List Oper} {o : Oper} {a : Act} {Q : Exit → Act → World → Prop}
    (hg : o.guard = none) (m x v : Operand) (hop : o.op = Op.mapUpdate 52 m x v) (b n : Nat) (S : List It) (hm : a.eval m = .map (some b)) (hown : MapI w b n S) (hn : n < 100000) (y : It) (hx : a.eval x = itV y) (hv : a.eval v = .bool true) (hy : I643 y)
    (hK : ∀ w', MapI w' b (n + 1) (S ++ [y]) → w.grownBy w' (some b) → wpList Try.prog ops Q rest (a.put o.dst undef) w') : wpList Try.prog ops Q (o :: rest) a w := by
  obtain ⟨D, h1, h2, h3⟩ := hown
  refine wpList_mapUpdate_own w hg m x v 52 hop 26 4 law26 Try.underlying52 _ b n D hm h1 (by unfold maxLen; omega) _ _ _ hx hv (key26 y hy) _ [] (plainElem_bool Try.underlying4 true) fun w' g1 g2 => hK w' ⟨_, g1, ?_, fun z hz => ?_⟩ g2
  · obtain ⟨es, rfl⟩ := h2; exact ⟨_, rfl⟩
  · rw [inI_app]
    by_cases e : z = y
    · subst e
      rw [atKey_put_same h2 (keyJ_ok _), (eqI_iff z z).2 rfl, Bool.or_true]
    · rw [atKey_put_other (fun h => e (keyJ_inj hz hy h)), h3 z hz]
      have : eqI y z = false := by
        cases h : eqI y z with
        | false => rfl
        | true => exact absurd ((eqI_iff y z).1 h).symm e
      rw [this, Bool.or_false]
theorem run_mkmapI (w : World) : (Instr.makeMap 52 none).run Try.prog w = .ok (.map (some w.heap.size)) (w.alloc (.map #[] 0)) := by
  simp [Instr.makeMap]
theorem takeL_sub : ∀ (l B : List It), ∀ x ∈ takeL B l, x ∈ B ∨ x ∈ l
  | [], B, x, h => .inl h
  | y :: l, B, x, h => by
    unfold takeL at h
    rcases takeL_sub l _ x h with h' | h'
    · split at h'
      · rcases List.mem_append.1 h' with h' | h'
        · exact .inl h'
        · simp at h'; subst h'; exact .inr (by simp)
      · exact .inl h'
    · exact .inr (List.mem_cons_of_mem _ h')
theorem bagL_sub (l : List It) : ∀ x ∈ bagL l, x ∈ l := fun x h => by
  rcases takeL_sub l [] x h with h | h
  · cases h
  · exact h
section
variable {H : Type} {enc : TypeId × Value → H} {w : World} {base : Nat} {spare : Nat → Bool} {held : Bool}
theorem item_cells' {n : Nat} {cs : List Value} {x : DataW H × List MemPlace} (h : DataW.trod enc Try.prog w base spare held n 26 cs = some x) :
    ∃ o : It, cs = [.int .i64 o.1, .int .i64 o.2.1, .int .i64 o.2.2] ∧ I643 o := by
  obtain ⟨y0, y1, y2, m, _, hl, h0, h1, h2⟩ := trod_struct3 Try.underlying26 h
  obtain ⟨c0, c1, c2, rfl⟩ := list3 (hl.trans (by kernel_rfl : Try.prog.cellsOf 26 = 3))
  rw [(by kernel_rfl : Try.prog.cellsOf 3 = 1)] at h0
  rw [(by kernel_rfl : Try.prog.cellsOf 2 = 1)] at h1 h2
  obtain ⟨a, rfl, ha⟩ := int_cell Try.underlying3 h0
  obtain ⟨b, rfl, hb⟩ := int_cell Try.underlying2 h1
  obtain ⟨c, rfl, hc⟩ := int_cell Try.underlying2 h2
  exact ⟨(a, b, c), rfl, i64_wf ha, i64_wf hb, i64_wf hc⟩
end
set_option maxRecDepth 100000 in
theorem open_items' {H : Type} {enc : TypeId × Value → H} {W : World} {v : Value} {d : DataW H} {p : List MemPlace} {r : Reach} {b0 : Nat}
    (hv : Value.okWide Try.prog W r b0 22 v) (h : DataW.Trod enc Try.prog W 0 (fun _ => true) true 22 v d p) : ∃ l, PS W v l ∧ ∀ x ∈ l, I643 x := by
  obtain ⟨a, len, cap, rfl⟩ := okWide_slice Try.underlying22 hv
  obtain ⟨fuel, hf⟩ := h
  rcases open_slice Try.underlying22 hf with ⟨hcs, _⟩ | ⟨x, l', c', m, n, D, Pl, hcs, _, hl, hm, hmm, _, hall⟩
  · simp [Value.cells] at hcs
    obtain ⟨rfl, rfl, rfl⟩ := hcs
    exact ⟨[], PS.nil _ _ _, fun p hp => by cases hp⟩
  · simp [Value.cells] at hcs
    obtain ⟨rfl, rfl, rfl⟩ := hcs
    simp only [if_true] at hmm
    subst hmm
    rw [(by kernel_rfl : Try.prog.cellsOf 26 = 3)] at hall
    have each : ∀ i, i < m → ∃ o : It, I643 o ∧ W.cell? (x.add (i * 3)) = some (.int .i64 o.1) ∧ W.cell? (x.add (i * 3 + 1)) = some (.int .i64 o.2.1) ∧ W.cell? (x.add (i * 3 + 2)) = some (.int .i64 o.2.2) := by
      intro i hi
      obtain ⟨cs', h1, h2⟩ := hall i hi
      obtain ⟨o, rfl, ho⟩ := item_cells' h2
      obtain ⟨_, _, hcell⟩ := World.cells?_some h1
      refine ⟨o, ho, ?_, ?_, ?_⟩
      · simpa [add_add] using hcell 0 (by omega)
      · simpa [add_add] using hcell 1 (by omega)
      · simpa [add_add] using hcell 2 (by omega)
    cases hlen : len with
    | zero => exact ⟨[], PS.nil _ _ _, fun p hp => by cases hp⟩
    | succ k =>
      obtain ⟨b, off, spot⟩ := x
      have hc0 : ∃ v, W.cell? ((⟨b, off, spot⟩ : Addr).add (0 * 3)) = some v := by obtain ⟨o, _, h, _⟩ := each 0 (by omega); exact ⟨_, h⟩
      obtain ⟨v0, hc0⟩ := hc0
      have hspot : spot = none := by simpa [Addr.add] using World.cell?_spot hc0
      subst hspot
      have hlt : b < W.heap.size := by
        rcases Nat.lt_or_ge b W.heap.size with h' | h'
        · exact h'
        · simp [World.cell?, Addr.add, Array.getElem?_eq_none h'] at hc0
      obtain ⟨F, hF⟩ := choose_lt (α := It) each
      rw [← hlen]
      refine ⟨(List.range len).map F, ⟨some ⟨b, off, none⟩, m, by simp, by simp; exact hl, .inr ⟨b, off, rfl, hlt, fun i hi => ?_⟩⟩, fun o ho => ?_⟩
      · have hi' : i < len := by simpa using hi
        obtain ⟨_, c0, c1, c2⟩ := hF i (by omega)
        have q : ((List.range len).map F).getD i zIt = F i := by simp [List.getD, hi']
        rw [q]
        rw [add_plain] at c0 c1 c2
        simp only [← Nat.add_assoc] at c0 c1 c2
        exact ⟨c0, c1, c2⟩
      · obtain ⟨i, hi, rfl⟩ := List.mem_map.1 ho
        have hi' := List.mem_range.1 hi
        exact (hF i (by omega)).1
theorem filter_half {A P : List Int} {L : List It} (n m : Nat) : ∀ x ∈ L.filter (protB (A.take n) (P.take m)), x ∈ L.filter (protB A P) := by
  intro x hx
  rw [List.mem_filter] at hx ⊢
  refine ⟨hx.1, (protB_iff A P x).2 ?_⟩
  rcases (protB_iff _ _ x).1 hx.2 with ⟨e, he, h⟩ | ⟨e, he, h⟩
  · exact .inl ⟨e, List.mem_of_mem_take he, h⟩
  · exact .inr ⟨e, List.mem_of_mem_take he, h⟩
end Go.Proofs.Ytknnnjnnphdipaa
