/- Schedules that grow: rows of picks of one's own. -/
import Derived.Test.YtpgcnejofnhhfaaDoorBox
import Derived.Deep.AppendLies
import Derived.Carry
import Derived.Maps.Own
import Derived.Maps.OwnOps
import Derived.Maps.OwnSet
namespace Go.Proofs.YtpgcnejofnhhfaaDoor
open Go.RowKit Go.Shelf Go.Maps

/-- A list of picks as the cells of a row. -/
def flat (m : List Pk) : List Value := m.flatMap fun p => [.int .i64 p.1, .int .i64 p.2.1, .int .i64 p.2.2]
theorem flat_append (a b : List Pk) : flat (a ++ b) = flat a ++ flat b := List.flatMap_append
theorem flat_at (m : List Pk) (i : Nat) (h : i < m.length) : (flat m)[i * 3]? = some (.int .i64 (m.getD i zPk).1) ∧ (flat m)[i * 3 + 1]? = some (.int .i64 (m.getD i zPk).2.1) ∧ (flat m)[i * 3 + 2]? = some (.int .i64 (m.getD i zPk).2.2) := by
  induction m generalizing i with
  | nil => simp at h
  | cons p r ih =>
    cases i with
    | zero => exact ⟨rfl, rfl, rfl⟩
    | succ i =>
      have := ih i (by simpa using h)
      have e1 : (i + 1) * 3 = i * 3 + 1 + 1 + 1 := by omega
      rw [e1]
      exact this
/-- The slice v of picks (of type t) reads as L, and is nobody else's to write; its block is not below B. -/
def Row (t : TypeId) (B : Nat) (w : World) (v : Value) (L : List Pk) : Prop := w.ownsRow B t 3 v L.length (flat L)
theorem Row.nil (t : TypeId) (B : Nat) (w : World) : Row t B w (.slice none 0 0) [] := World.ownsRow_nil w B t 3
theorem row_below {w w1 : World} {B : Nat} {e : TypeId} {size : Nat} {v : Value} {n : Nat} {xs : List Value} (h : w.ownsRow B e size v n xs) (hb : Below w.heap.size w w1) : w1.ownsRow B e size v n xs := by
  obtain ⟨h1, h2 | ⟨g, cap, cur, hv, hB, hh, r⟩⟩ := h
  · exact ⟨h1, .inl h2⟩
  · have hg : g < w.heap.size := (Array.getElem?_eq_some_iff.1 hh).1
    exact ⟨h1, .inr ⟨g, cap, cur, hv, hB, (hb.block g hg).trans hh, r⟩⟩
theorem Row.below {t : TypeId} {B : Nat} {w w1 : World} {v : Value} {m : List Pk} (h : Row t B w v m) (hb : Below w.heap.size w w1) : Row t B w1 v m := row_below h hb
theorem Row.ps {t : TypeId} {B : Nat} {w : World} {v : Value} {m : List Pk} (h : Row t B w v m) : PS w v m := by
  have h0 := h
  obtain ⟨h1, ⟨h2, h3⟩ | ⟨g, cap, cur, hv, hB, hh, r⟩⟩ := h
  · obtain rfl := List.length_eq_zero_iff.1 h3
    exact ⟨_, _, h2, .inl rfl⟩
  · subst hv
    refine ⟨_, cap, rfl, .inr ⟨g, 0, rfl, (Array.getElem?_eq_some_iff.1 hh).1, fun i hi => ?_⟩⟩
    obtain ⟨e1, e2, e3⟩ := flat_at m i hi
    rw [Nat.zero_add]
    exact ⟨(World.ownsRow.cellAt h0 (i * 3) (by omega)).trans e1, (World.ownsRow.cellAt h0 (i * 3 + 1) (by omega)).trans e2, (World.ownsRow.cellAt h0 (i * 3 + 2) (by omega)).trans e3⟩
theorem info35 : (Tryd.prog.info? 35).map (fun i => (i.zero, i.size, i.bytes)) = some (some (.agg #[.int .i64 0, .int .i64 0, .int .i64 0]), 3, 24) := by kernel_rfl
theorem info37 : (Tryd.prog.info? 37).map (fun i => (i.zero, i.size, i.bytes)) = some (some (.agg #[.int .i64 0, .int .i64 0, .int .i64 0]), 3, 24) := by kernel_rfl
/-- A new pick lies in a block of its own. -/
theorem tri_new (w : World) (x y z : Int) (t : TypeId) : ∀ j u, ([.int .i64 x, .int .i64 y, .int .i64 z] : List Value)[j]? = some u → (w.alloc (.cells #[.int .i64 x, .int .i64 y, .int .i64 z] t)).cell? ((⟨w.heap.size, 0, none⟩ : Addr).add j) = some u := by
  intro j u h
  match j, h with
  | 0, h => simp at h; subst h; simp [go_sem, Addr.add]
  | 1, h => simp at h; subst h; simp [go_sem, Addr.add]
  | 2, h => simp at h; subst h; simp [go_sem, Addr.add]
theorem tri_one (x y z : Int) : ∀ u ∈ ([.int .i64 x, .int .i64 y, .int .i64 z] : List Value), u.oneCell' = true := by
  intro u hu
  simp at hu
  rcases hu with rfl | rfl | rfl <;> rfl
theorem row_snoc {t : TypeId} {w : World} {B : Nat} {v : Value} {out : List Pk} {x y z : Int} (h : w.ownsRow B t 3 v (out.length + 1) (flat out ++ [.int .i64 x, .int .i64 y, .int .i64 z])) : Row t B w v (out ++ [(x, y, z)]) := by
  unfold Row
  rw [flat_append]
  simpa [flat] using h
theorem below_app {B : Nat} {w wr w1 : World} {t : TypeId} {vo : Value} {nn : Nat} {xs : List Value} {o : Obj} (hnx : Below B w wr) (hB : B ≤ wr.heap.size) (hown : wr.ownsRow B t 3 vo nn xs) (hg : (wr.alloc o).grownBy w1 vo.ownBlock) : Below B w w1 :=
  (hnx.alloc hB _).grown hg (by simp; omega) (fun j hj => (hown.lt j hj).1)
end Go.Proofs.YtpgcnejofnhhfaaDoor
