/- The reference of layer 2: slices of pairs; At; what the loop of With computes. -/
import Derived.Test.YtapaimoahiplcaaLocs
import Derived.OpenShut
import Derived.Deep.AppendLies
import Derived.Deep.Onto
import Derived.WalkKit
import Derived.WalkSpells
import Derived.WalkLawsBesides
import Derived.Carry
import Derived.Lib.Hide
import Derived.Maps.Own
import Derived.Maps.OwnOps
import Derived.Maps.OwnSet
import Derived.Maps.RangeWalk
import Derived.Maps.Ext
import Derived.Deep.LoopGhost
namespace Go.Proofs.Ytapaimoahiplcaa
open Go.RowKit Go.Shelf Go.Maps

/-- A list of pairs as the cells of a row. -/
def flat (m : List (Int × Int)) : List Value := m.flatMap fun p => [.int .i64 p.1, .int .i64 p.2]

theorem flat_append (a b : List (Int × Int)) : flat (a ++ b) = flat a ++ flat b := List.flatMap_append
theorem flat_length (m : List (Int × Int)) : (flat m).length = m.length * 2 := by
  induction m with
  | nil => rfl
  | cons p r ih => show ([_, _] ++ flat r).length = _; simp [ih]; omega
theorem flat_at (m : List (Int × Int)) (i : Nat) (h : i < m.length) : (flat m)[i * 2]? = some (.int .i64 (m.getD i (0, 0)).1) ∧ (flat m)[i * 2 + 1]? = some (.int .i64 (m.getD i (0, 0)).2) := by
  induction m generalizing i with
  | nil => simp at h
  | cons p r ih =>
    cases i with
    | zero => exact ⟨rfl, rfl⟩
    | succ i =>
      have := ih i (by simpa using h)
      have e1 : (i + 1) * 2 = i * 2 + 1 + 1 := by omega
      rw [e1]
      exact this

/-- The slice v of pairs reads as m, and is nobody else's to write. -/
def IsP (w : World) (v : Value) (m : List (Int × Int)) : Prop := w.ownsRow 0 52 2 v m.length (flat m)

theorem IsP.nil (w : World) : IsP w (.slice none 0 0) [] := World.ownsRow_nil w 0 52 2
theorem row_below {w w1 : World} {B : Nat} {e : TypeId} {size : Nat} {v : Value} {n : Nat} {xs : List Value} (h : w.ownsRow B e size v n xs) (hb : Below w.heap.size w w1) : w1.ownsRow B e size v n xs := by
  obtain ⟨h1, h2 | ⟨g, cap, cur, hv, hB, hh, r⟩⟩ := h
  · exact ⟨h1, .inl h2⟩
  · have hg : g < w.heap.size := (Array.getElem?_eq_some_iff.1 hh).1
    exact ⟨h1, .inr ⟨g, cap, cur, hv, hB, (hb.block g hg).trans hh, r⟩⟩
theorem IsP.below {w w1 : World} {v : Value} {m : List (Int × Int)} (h : IsP w v m) (hb : Below w.heap.size w w1) : IsP w1 v m := row_below h hb

/-- Such a slice opened: nil, or a row whose cells are known. -/
theorem IsP.open {w : World} {v : Value} {m : List (Int × Int)} (h : IsP w v m) :
    (v = .slice none 0 0 ∧ m = []) ∨ ∃ g cap, v = .slice (some ⟨g, 0, none⟩) m.length cap ∧ g < w.heap.size ∧
      ∀ i, i < m.length → w.cell? ⟨g, i * 2, none⟩ = some (.int .i64 (m.getD i (0, 0)).1) ∧ w.cell? ⟨g, i * 2 + 1, none⟩ = some (.int .i64 (m.getD i (0, 0)).2) := by
  have h0 := h
  obtain ⟨h1, ⟨h2, h3⟩ | ⟨g, cap, cur, hv, hB, hh, r⟩⟩ := h
  · exact .inl ⟨h2, List.length_eq_zero_iff.1 h3⟩
  · subst hv
    refine .inr ⟨g, cap, rfl, (Array.getElem?_eq_some_iff.1 hh).1, fun i hi => ?_⟩
    obtain ⟨e1, e2⟩ := flat_at m i hi
    exact ⟨(World.ownsRow.cellAt h0 (i * 2) (by omega)).trans e1, (World.ownsRow.cellAt h0 (i * 2 + 1) (by omega)).trans e2⟩

theorem atL_found (m : List (Int × Int)) (l : Int) : ∀ (k : Nat), (∀ j, j < k → (m.getD j (0, 0)).1 ≠ l) → k < m.length → (m.getD k (0, 0)).1 = l → atL m l = (m.getD k (0, 0)).2 := by
  induction m with
  | nil => intro k _ h; simp at h
  | cons p r ih =>
    intro k hn hk he
    cases k with
    | zero =>
      have he : p.1 = l := he
      show (if p.1 = l then p.2 else atL r l) = p.2
      rw [if_pos he]
    | succ k =>
      have h0 : p.1 ≠ l := hn 0 (by omega)
      show (if p.1 = l then p.2 else atL r l) = _
      rw [if_neg h0]
      exact ih k (fun j hj => hn (j + 1) (by omega)) (by simpa using hk) he

theorem atL_never (m : List (Int × Int)) (l : Int) (h : ∀ j, j < m.length → (m.getD j (0, 0)).1 ≠ l) : atL m l = 0 := by
  refine atL_none fun p hp e => ?_
  obtain ⟨j, hj, ej⟩ := List.mem_iff_getElem.1 hp
  have := h j hj
  rw [List.getD, List.getElem?_eq_getElem hj, ej] at this
  exact this e

theorem ret_int {a b : Int} (h : a = b) : Ending.returned (.int .i64 a) = .returned (.int .i64 b) := by rw [h]

set_option maxHeartbeats 800000 in
theorem rat_some (g cap : Nat) (m : List (Int × Int)) (l : Int) (w : World) (hl : m.length ≤ 5000)
    (hc : ∀ i, i < m.length → w.cell? ⟨g, i * 2, none⟩ = some (.int .i64 (m.getD i (0, 0)).1) ∧ w.cell? ⟨g, i * 2 + 1, none⟩ = some (.int .i64 (m.getD i (0, 0)).2)) :
    Calls Try.prog 15 #[.slice (some ⟨g, 0, none⟩) m.length cap, .int .i64 l] w fun e w' => e = .returned (.int .i64 (atL m l)) ∧ w = w' := by
  have HC := Lib.hid hc
  clear hc
  go_enter Try.func15, Try.ntmps15
  go_wp2
  go_loop [5] (fun i => ∃ k : Nat, k ≤ m.length ∧ i = .int .i64 k ∧ ∀ j, j < k → (m.getD j (0, 0)).1 ≠ l) (fun i => m.length - (intOf i).toNat)
  case atStart => exact ⟨0, by omega, rfl, fun j hj => by omega⟩
  case round =>
    obtain ⟨k, hk, rfl, hn⟩ := hrel
    have HN := Lib.hid hn
    clear hn
    by_cases hlt : k < m.length
    · obtain ⟨c1, c2⟩ := HC.out k hlt
      obtain ⟨x, hx⟩ : ∃ x, x = (m.getD k (0, 0)).1 := ⟨_, rfl⟩
      obtain ⟨y, hy⟩ : ∃ y, y = (m.getD k (0, 0)).2 := ⟨_, rfl⟩
      rw [← hx] at c1
      rw [← hy] at c2
      have HX := Lib.hid hx
      have HY := Lib.hid hy
      clear hx hy
      by_cases he : x = l
      · have hb : (x == l) = true := by simpa using he
        have HE := Lib.hid he
        clear he
        go_wp2
        go_ret
        exact ⟨ret_int (by rw [HY.out]; exact (atL_found m l k HN.out hlt (by rw [← HX.out]; exact HE.out)).symm), rfl⟩
      · have hb : (x == l) = false := by simpa using he
        have HE := Lib.hid he
        clear he
        go_wp2
        go_round
        case rel => exact ⟨k + 1, by omega, by go_num, fun j hj => by
          by_cases e : j = k
          · subst e; rw [← HX.out]; exact HE.out
          · exact HN.out j (by omega)⟩
        case measure => simp [intOf]; omega
    · go_wp2
      go_ret
      exact ⟨ret_int (atL_never m l (fun j hj => HN.out j (by omega))).symm, rfl⟩

set_option maxHeartbeats 800000 in
theorem rat_nil (l : Int) (w : World) : Calls Try.prog 15 #[.slice none 0 0, .int .i64 l] w fun e w' => e = .returned (.int .i64 0) ∧ w = w' := by
  go_enter Try.func15, Try.ntmps15
  go_wp2
  refine wp_loop_rounds 1 ?_
  rw [rounds_succ]
  go_wp2
  go_ret
  exact ⟨rfl, rfl⟩

theorem rat_any (v : Value) (m : List (Int × Int)) (l : Int) (w : World) (hl : m.length ≤ 5000) (h : IsP w v m) : Calls Try.prog 15 #[v, .int .i64 l] w fun e w' => e = .returned (.int .i64 (atL m l)) ∧ w = w' := by
  obtain ⟨rfl, rfl⟩ | ⟨g, cap, rfl, _, hc⟩ := h.open
  · exact rat_nil l w
  · exact rat_some g cap m l w hl hc


/-- One element of the old list laid into the new one: what the loop of the reference's With does. -/
def stepR (l n : Int) (s : List (Int × Int) × Bool) (p : Int × Int) : List (Int × Int) × Bool :=
  if p.1 < l then (s.1 ++ [p], s.2) else if s.2 then (s.1 ++ [p], true) else if p.1 = l then (s.1 ++ [(l, n)], true) else (s.1 ++ [(l, n)] ++ [p], true)
def runR (l n : Int) (m : List (Int × Int)) (k : Nat) : List (Int × Int) × Bool := (m.take k).foldl (stepR l n) ([], false)

theorem runR_succ (l n : Int) (m : List (Int × Int)) (k : Nat) (h : k < m.length) : runR l n m (k + 1) = stepR l n (runR l n m k) (m.getD k (0, 0)) := by
  unfold runR
  rw [List.take_succ_eq_append_getElem h, List.foldl_append, List.getD, List.getElem?_eq_getElem h]
  rfl

theorem fold_put (l n : Int) : ∀ (s a : List (Int × Int)), s.foldl (stepR l n) (a, true) = (a ++ s, true)
  | [], a => by simp
  | p :: r, a => by
    have e : stepR l n (a, true) p = (a ++ [p], true) := by unfold stepR; split <;> simp
    rw [List.foldl_cons, e, fold_put l n r]
    simp

theorem fold_ins (l n : Int) : ∀ (s a : List (Int × Int)), (let x := s.foldl (stepR l n) (a, false); if x.2 then x.1 else x.1 ++ [(l, n)]) = a ++ insL s l n
  | [], a => by simp [insL]
  | p :: r, a => by
    rw [List.foldl_cons]
    unfold insL
    by_cases h1 : p.1 < l
    · have e : stepR l n (a, false) p = (a ++ [p], false) := by unfold stepR; rw [if_pos h1]
      rw [e, if_pos h1, fold_ins l n r]
      simp
    · rw [if_neg h1]
      by_cases h2 : p.1 = l
      · have e : stepR l n (a, false) p = (a ++ [(l, n)], true) := by unfold stepR; simp [h2]
        rw [e, if_pos h2, fold_put]
        simp
      · have e : stepR l n (a, false) p = (a ++ [(l, n)] ++ [p], true) := by unfold stepR; simp [h1, h2]
        rw [e, if_neg h2, fold_put]
        simp

theorem runR_end (l n : Int) (m : List (Int × Int)) : (if (runR l n m m.length).2 then (runR l n m m.length).1 else (runR l n m m.length).1 ++ [(l, n)]) = insL m l n := by
  unfold runR
  rw [List.take_length]
  simpa using fold_ins l n m []

theorem runR_len (l n : Int) (m : List (Int × Int)) (k : Nat) : (runR l n m k).1.length ≤ 2 * k := by
  unfold runR
  suffices ∀ (s : List (Int × Int)) (x : List (Int × Int) × Bool), (s.foldl (stepR l n) x).1.length ≤ x.1.length + 2 * s.length by
    have := this (m.take k) ([], false)
    simp at this
    omega
  intro s
  induction s with
  | nil => intro x; simp
  | cons p r ih =>
    intro x
    rw [List.foldl_cons]
    have := ih (stepR l n x p)
    have h2 : (stepR l n x p).1.length ≤ x.1.length + 2 := by
      unfold stepR
      split
      · simp
      · split
        · simp
        · split <;> simp
    simp
    omega

theorem getD_lt {m : List (Int × Int)} (hr : Rising m) {i j : Nat} (hij : i < j) (hj : j < m.length) : (m.getD i (0, 0)).1 < (m.getD j (0, 0)).1 := by
  have := List.pairwise_iff_getElem.1 hr i j (by omega) hj hij
  simpa [List.getD, List.getElem?_eq_getElem (show i < m.length by omega), List.getElem?_eq_getElem hj] using this

theorem runR_put (l n : Int) {m : List (Int × Int)} (hr : Rising m) : ∀ (k : Nat), k ≤ m.length → (runR l n m k).2 = true → ∀ j, k ≤ j → j < m.length → l < (m.getD j (0, 0)).1
  | 0, _, h, _, _, _ => by simp [runR] at h
  | k + 1, hk, h, j, hkj, hj => by
    rw [runR_succ l n m k (by omega)] at h
    by_cases hp : (runR l n m k).2 = true
    · exact runR_put l n hr k (by omega) hp j (by omega) hj
    · have := getD_lt hr (show k < j by omega) hj
      unfold stepR at h
      by_cases h1 : (m.getD k (0, 0)).1 < l
      · rw [if_pos h1] at h; exact absurd h hp
      · omega
end Go.Proofs.Ytapaimoahiplcaa
