/- Sets of locations as maps. -/
import Derived.Test.YtmophafgmimhcaaMdSwaps
import Derived.Maps.Ext
namespace Go.Proofs.Ytmophafgmimhcaa
open Go.ChangeShapes Go.WideShapes Go.ChangeAt Go.RowKit Go.Maps
def inL (l : List Int) (x : Int) : Bool := l.any (· == x)
theorem inL_iff (l : List Int) (x : Int) : inL l x = true ↔ x ∈ l := by
  unfold inL; simp
theorem inL_app (S : List Int) (x y : Int) : inL (S ++ [x]) y = (inL S y || x == y) := by simp [inL]
theorem lawE : Keyed Try.prog 40 := int_keyed Try.underlying40
theorem zeroB (w : World) : (zeroValue 4).run Try.prog w = .ok (.bool false) w := by kernel_rfl
theorem ne_key {a b : Int} (h : a ≠ b) : (Lit.int .i64 a) ≠ Lit.int .i64 b := fun e => h (by injection e)
theorem isKey (l : Int) : WideAt.IsKeyLit (.int .i64 l) := by trivial
def I64 (x : Int) : Prop := -9223372036854775808 ≤ x ∧ x < 9223372036854775808
theorem key_int (p : Int) (h : I64 p) : keyOf Try.prog 40 (.int .i64 p) = some (.int .i64 p) := keyOf_int_mk Try.underlying40 (WalkArith.wf_i64 (by unfold I64 at h; omega))
/-- The map in block b says true of the members of S. -/
def MapS (w : World) (b n : Nat) (S : List Int) : Prop :=
  ∃ D, w.ownsMap Try.prog 40 (plainElem (H := Unit) Try.prog 4) b n D ∧ IsMap D ∧ ∀ x, D.atKey (.int .i64 x) (.lit (.bool false)) = .lit (.bool (inL S x))
theorem MapS.made (w : World) : MapS (w.alloc (.map #[] 0)) w.heap.size 0 [] := ⟨_, World.ownsMap_made w Try.prog 40 _, ⟨[], rfl⟩, fun _ => rfl⟩
theorem owns_below {w w1 : World} {b n : Nat} {D : DataW Unit} {kt : TypeId} {R : Value → Option (DataW Unit × List MemPlace)} (h : w.ownsMap Try.prog kt R b n D) (hb : Below w.heap.size w w1) : w1.ownsMap Try.prog kt R b n D := by
  have hlt := h.lt
  obtain ⟨es, clock, hk, F, hs, hD⟩ := h
  exact ⟨es, clock, (hb.block b hlt).trans hk, F, hs, hD⟩
theorem MapS.below {w w1 : World} {b n : Nat} {S : List Int} (h : MapS w b n S) (hb : Below w.heap.size w w1) : MapS w1 b n S := by
  obtain ⟨D, h1, h2, h3⟩ := h
  exact ⟨D, owns_below h1 hb, h2, h3⟩
theorem MapS.look {w : World} {b n : Nat} {S : List Int} (h : MapS w b n S) (x : Int) (hx : I64 x) : (Instr.lookup 51 (.map (some b)) (.int .i64 x) false).run Try.prog w = .ok (.bool (inL S x)) w := by
  obtain ⟨D, h1, h2, h3⟩ := h
  obtain ⟨v, ps, hrun, hv⟩ := h1.lookup lawE Try.underlying51 (zeroB w) (plainElem_bool Try.underlying4 false) (key_int x hx)
  rw [h3] at hv
  have : v = .bool (inL S x) := by
    unfold plainElem at hv
    rw [Try.underlying4] at hv
    cases v <;> simp at hv
    rw [hv.1]
  rw [this] at hrun
  exact hrun
theorem wpList_mark (w : World) {ops : Array Oper} {rest : List Oper} {o : Oper} {a : Act} {Q : Exit → Act → World → Prop}
    (hg : o.guard = none) (m x v : Operand) (hop : o.op = Op.mapUpdate 51 m x v) (b n : Nat) (S : List Int) (hm : a.eval m = .map (some b)) (hown : MapS w b n S) (hn : n < 100000) (y : Int) (hx : a.eval x = .int .i64 y) (hv : a.eval v = .bool true) (hy : I64 y)
    (hK : ∀ w', MapS w' b (n + 1) (S ++ [y]) → w.grownBy w' (some b) → wpList Try.prog ops Q rest (a.put o.dst undef) w') : wpList Try.prog ops Q (o :: rest) a w := by
  obtain ⟨D, h1, h2, h3⟩ := hown
  refine wpList_mapUpdate_own w hg m x v 51 hop 40 4 lawE Try.underlying51 _ b n D hm h1 (by unfold maxLen; omega) _ _ _ hx hv (key_int y hy) _ [] (plainElem_bool Try.underlying4 true) fun w' g1 g2 => hK w' ⟨_, g1, ?_, fun z => ?_⟩ g2
  · obtain ⟨es, rfl⟩ := h2; exact ⟨_, rfl⟩
  · rw [inL_app]
    by_cases e : z = y
    · subst e
      rw [atKey_put_same h2 (isKey _)]; simp
    · rw [atKey_put_other (ne_key e), h3 z]
      have : (y == z) = false := by rw [beq_eq_false_iff_ne]; exact fun h => e h.symm
      rw [this, Bool.or_false]
theorem below_mark {B : Nat} {w wr w1 : World} {b : Nat} (hnx : Below B w wr) (hB : B ≤ wr.heap.size) (hb : B ≤ b) (hg : wr.grownBy w1 (some b)) : Below B w w1 :=
  hnx.grown hg hB (fun j hj => by cases hj; exact hb)
theorem run_mkmap (w : World) : (Instr.makeMap 51 none).run Try.prog w = .ok (.map (some w.heap.size)) (w.alloc (.map #[] 0)) := by
  simp [Instr.makeMap]
def locs (L : List En) : List Int := L.map (·.1)
theorem locs_take (L : List En) {k : Nat} (h : k < L.length) : locs (L.take (k + 1)) = locs (L.take k) ++ [(L[k]!).1] := by
  unfold locs
  rw [take_snoc L h, List.map_append]; rfl
theorem few2 {w : World} {a b : Option Addr} {n c m d : Nat} : SK slE (w.alloc (.cells #[.slice a n c, .slice b m d] 30)) (.slice (some ⟨w.heap.size, 0, none⟩) 2 2) [(a, n, c), (b, m, d)] :=
  SK.ofBox (E := slE) (Box.new w _ 30 rfl) rfl rfl (Nat.le_refl _)
end Go.Proofs.Ytmophafgmimhcaa
