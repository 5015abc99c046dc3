/- The order of the calls of With does not matter: plain facts for ViewOrder. -/
import Derived.Test.YtapaimoahiplcaaMore
import Derived.Deep.AppendLies
import Derived.Deep.Onto
namespace Go.Proofs.Ytapaimoahiplcaa
open Go.RowKit Go.Shelf Go.Maps

theorem joinL_mono (ops : List (Int × Int)) : ∀ acc, Ok acc → (∀ p ∈ ops, p.2 < 9223372036854775808) → ∀ k, atL acc k ≤ atL (joinL acc ops) k := by
  induction ops with
  | nil => intro acc _ _ k; exact Int.le_refl _
  | cons p r ih =>
    intro acc ha hb k
    have h1 := ih (withL acc p.1 p.2) (ok_withL ha (hb p (by simp))) (fun q hq => hb q (by simp [hq])) k
    rw [atL_withL ha] at h1
    show atL acc k ≤ atL (joinL (withL acc p.1 p.2) r) k
    split at h1 <;> omega
theorem joinL_ge (ops : List (Int × Int)) : ∀ acc, Ok acc → (∀ p ∈ ops, p.2 < 9223372036854775808) → ∀ p ∈ ops, 0 ≤ p.1 → p.1 < 4096 → p.2 ≤ atL (joinL acc ops) p.1 := by
  induction ops with
  | nil => intro acc _ _ p hp; cases hp
  | cons q r ih =>
    intro acc ha hb p hp h0 h1
    have hok := ok_withL (l := q.1) ha (hb q (by simp))
    have hbr : ∀ q ∈ r, q.2 < 9223372036854775808 := fun x hx => hb x (by simp [hx])
    show p.2 ≤ atL (joinL (withL acc q.1 q.2) r) p.1
    rcases List.mem_cons.1 hp with rfl | hp
    · have := joinL_mono r (withL acc p.1 p.2) hok hbr p.1
      rw [atL_withL ha, if_pos ⟨rfl, h0, h1⟩] at this
      omega
    · exact ih _ hok hbr p hp h0 h1
theorem joinL_from (ops : List (Int × Int)) : ∀ acc, Ok acc → (∀ p ∈ ops, p.2 < 9223372036854775808) → ∀ k, atL (joinL acc ops) k = atL acc k ∨ ∃ p ∈ ops, (0 ≤ p.1 ∧ p.1 < 4096) ∧ p.1 = k ∧ atL (joinL acc ops) k = p.2 := by
  induction ops with
  | nil => intro acc _ _ k; exact .inl rfl
  | cons q r ih =>
    intro acc ha hb k
    have hok := ok_withL (l := q.1) ha (hb q (by simp))
    have hbr : ∀ q ∈ r, q.2 < 9223372036854775808 := fun x hx => hb x (by simp [hx])
    have e : joinL acc (q :: r) = joinL (withL acc q.1 q.2) r := rfl
    rw [e]
    rcases ih _ hok hbr k with h | ⟨p, hp, hv, hk, he⟩
    · rw [h, atL_withL ha]
      split
      · rename_i hk
        rcases Int.le_total q.2 (atL acc k) with g | g
        · left; omega
        · right
          exact ⟨q, by simp, ⟨hk.2.1, hk.2.2⟩, hk.1.symm, by omega⟩
      · exact .inl rfl
    · exact .inr ⟨p, by simp [hp], hv, hk, he⟩

theorem madeL_le {a b : List (Int × Int)} (ha : OpsOk a) (hb : OpsOk b) (h : ∀ p ∈ a, p ∈ b) (k : Int) : atL (madeL a) k ≤ atL (madeL b) k := by
  rcases joinL_from a [] ok_nil (fun p hp => (ha p hp).2.2) k with h1 | ⟨p, hp, hv, rfl, he⟩
  · show atL (joinL [] a) k ≤ _
    rw [h1]
    exact (atL_bd (ok_made hb) k).1
  · show atL (joinL [] a) p.1 ≤ _
    rw [he]
    exact joinL_ge b [] ok_nil (fun p hp => (hb p hp).2.2) p (h p hp) hv.1 hv.2
theorem madeL_same {a b : List (Int × Int)} (ha : OpsOk a) (hb : OpsOk b) (h : ∀ p, p ∈ a ↔ p ∈ b) : madeL a = madeL b :=
  ext_atL (ok_made ha) (ok_made hb) fun k => Int.le_antisymm (madeL_le ha hb (fun p hp => (h p).1 hp) k) (madeL_le hb ha (fun p hp => (h p).2 hp) k)

/-- The first k calls of a, turned by t. -/
def rotL (a : List (Int × Int)) (t k : Nat) : List (Int × Int) := (List.range k).map fun i => a.getD ((i + t) % a.length) (0, 0)
theorem rotL_succ (a : List (Int × Int)) (t k : Nat) : rotL a t (k + 1) = rotL a t k ++ [a.getD ((k + t) % a.length) (0, 0)] := by
  simp [rotL, List.range_succ]
theorem rotL_length (a : List (Int × Int)) (t k : Nat) : (rotL a t k).length = k := by simp [rotL]
theorem mem_rotL {a : List (Int × Int)} (t : Nat) (hn : 0 < a.length) (p : Int × Int) : p ∈ rotL a t a.length ↔ p ∈ a := by
  constructor
  · intro h
    obtain ⟨i, hi, rfl⟩ := List.mem_map.1 h
    have hlt : (i + t) % a.length < a.length := Nat.mod_lt _ hn
    rw [List.getD, List.getElem?_eq_getElem hlt]
    exact List.getElem_mem hlt
  · intro h
    obtain ⟨j, hj, rfl⟩ := List.getElem_of_mem h
    have ht : t % a.length < a.length := Nat.mod_lt _ hn
    refine List.mem_map.2 ⟨(j + a.length - t % a.length) % a.length, List.mem_range.2 (Nat.mod_lt _ hn), ?_⟩
    have e : ((j + a.length - t % a.length) % a.length + t) % a.length = j := by
      rw [Nat.add_mod, Nat.mod_mod, ← Nat.add_mod]
      have h1 : (j + a.length - t % a.length + t) % a.length = (j + a.length - t % a.length + t % a.length) % a.length := by
        rw [Nat.add_mod, Nat.add_mod (j + a.length - t % a.length) (t % a.length), Nat.mod_mod]
      rw [h1, show j + a.length - t % a.length + t % a.length = j + a.length by omega, Nat.add_mod_right, Nat.mod_eq_of_lt hj]
    rw [e, List.getD, List.getElem?_eq_getElem hj]
    rfl
theorem made_rot {a : List (Int × Int)} (t : Nat) (ha : OpsOk a) (hn : 0 < a.length) : OpsOk (rotL a t a.length ++ [a.getD 0 (0, 0)]) ∧ madeL (rotL a t a.length ++ [a.getD 0 (0, 0)]) = madeL a := by
  have h0 : a.getD 0 (0, 0) ∈ a := by
    rw [List.getD, List.getElem?_eq_getElem hn]
    exact List.getElem_mem hn
  have hmem : ∀ p, p ∈ rotL a t a.length ++ [a.getD 0 (0, 0)] ↔ p ∈ a := fun p => by
    rw [List.mem_append, mem_rotL t hn]
    constructor
    · rintro (h | h)
      · exact h
      · simp only [List.mem_singleton] at h
        rw [h]; exact h0
    · exact .inl
  have hok : OpsOk (rotL a t a.length ++ [a.getD 0 (0, 0)]) := fun p hp => ha p ((hmem p).1 hp)
  exact ⟨hok, madeL_same hok ha hmem⟩

theorem info37 : (Try.prog.info? 37).map (fun i => (i.zero, i.size, i.bytes)) = some (some (.agg #[.int .i64 0, .int .i64 0]), 2, 16) := by kernel_rfl
theorem op_new (w : World) (x y : Int) : ∀ j u, ([.int .i64 x, .int .i64 y] : List Value)[j]? = some u → (w.alloc (.cells #[.int .i64 x, .int .i64 y] 37)).cell? ((⟨w.heap.size, 0, none⟩ : Addr).add j) = some u := by
  intro j u h
  match j, h with
  | 0, h => simp at h; subst h; simp [go_sem, Addr.add]
  | 1, h => simp at h; subst h; simp [go_sem, Addr.add]
theorem op_snoc {w : World} {B : Nat} {v : Value} {out : List (Int × Int)} {x y : Int} (h : w.ownsRow B 37 2 v (out.length + 1) (flat out ++ [.int .i64 x, .int .i64 y])) : w.ownsRow B 37 2 v (out ++ [(x, y)]).length (flat (out ++ [(x, y)])) := by
  rw [flat_append]
  simpa [flat] using h
theorem own_ops {w : World} {B : Nat} {v : Value} {ops : List (Int × Int)} (h : w.ownsRow B 37 2 v ops.length (flat ops)) : IsOps w v ops := by
  have h0 := h
  obtain ⟨h1, ⟨h2, h3⟩ | ⟨g, cap, cur, hv, hB, hh, r⟩⟩ := h
  · exact .inl ⟨_, _, h2, List.length_eq_zero_iff.1 h3⟩
  · subst hv
    refine .inr ⟨g, 0, cap, rfl, (Array.getElem?_eq_some_iff.1 hh).1, fun i hi => ?_⟩
    obtain ⟨e1, e2⟩ := flat_at ops i hi
    refine ⟨?_, ?_⟩
    · simpa using (World.ownsRow.cellAt h0 (i * 2) (by omega)).trans e1
    · simpa using (World.ownsRow.cellAt h0 (i * 2 + 1) (by omega)).trans e2
theorem below_app37 {w wr w1 : World} {vo : Value} {nn : Nat} {xs : List Value} {o : Obj} {B : Nat} (hB : B ≤ wr.heap.size) (hnx : Below B w wr) (hown : wr.ownsRow B 37 2 vo nn xs) (hg : (wr.alloc o).grownBy w1 vo.ownBlock) : Below B w w1 :=
  (hnx.alloc hB _).grown hg (by simp; omega) (fun j hj => (hown.lt j hj).1)
end Go.Proofs.Ytapaimoahiplcaa
