/- Words, entries and what layers entry and model say of them, in lists. -/
import Derived.Test.YtjphhfgomlchoaaDoorKBase
namespace Go.Proofs.YtjphhfgomlchoaaDoor
abbrev Wd := Int × Int × Int
abbrev En := Int × Wd × Int × Bool
def OkW (x : Wd) : Prop := (-9223372036854775808 ≤ x.1 ∧ x.1 < 9223372036854775808) ∧ (0 ≤ x.2.1 ∧ x.2.1 < 4294967296) ∧ (0 ≤ x.2.2 ∧ x.2.2 < 4294967296)
def OkE (e : En) : Prop := (-9223372036854775808 ≤ e.1 ∧ e.1 < 9223372036854775808) ∧ OkW e.2.1 ∧ (-9223372036854775808 ≤ e.2.2.1 ∧ e.2.2.1 < 9223372036854775808)
/-- What is wrong with one entry. -/
def chk (e : En) : Int :=
  if e.1 < 0 ∨ 4096 ≤ e.1 then 3 else if e.2.1.2.2 ≠ 0 then 13 else if e.2.2.2 = true ∧ e.2.1.2.1 = 4294967295 then 9 else if e.2.2.2 = false ∧ e.2.2.1 ≠ e.2.1.1 then 4 else 0
def fndN (a : Int) (L : List En) : Nat := L.findIdx fun e => e.1 == a
def fnd (a : Int) (L : List En) : Int := if fndN a L < L.length then (fndN a L : Int) else -1
def chkFrom (pre : List En) : List En → Int
  | [] => 0
  | e :: r => if chk e ≠ 0 then chk e else if 0 ≤ fnd e.1 pre then 11 else chkFrom (pre ++ [e]) r
def chkL (L : List En) : Int := if L.length = 0 then 8 else if 32 < L.length then 15 else chkFrom [] L
/-- The word of a model at a location. -/
def atM (M : List Wd) (a : Int) : Wd := if 0 ≤ a ∧ a < M.length then M[a.toNat]! else (0, 0, 0)
def hasM (M : List Wd) (a : Int) : Bool := decide (0 ≤ a ∧ a < M.length)
def holds1 (M : List Wd) (e : En) : Bool := hasM M e.1 && decide (atM M e.1 = (e.2.1.1, e.2.1.2.1, 0))
def holds (M : List Wd) (L : List En) : Bool := L.all (holds1 M)
def hasL (M : List Wd) (L : List En) : Bool := L.all fun e => hasM M e.1
def chkM (M : List Wd) (L : List En) : Int := if chkL L ≠ 0 then chkL L else if hasL M L then 0 else 1
def upd1 (M : List Wd) (e : En) : List Wd := if e.2.2.2 then M.set e.1.toNat (e.2.2.1, IntKind.u32.wrap (e.2.1.2.1 + 1), 0) else M
def upd (M : List Wd) (L : List En) : List Wd := L.foldl upd1 M
/-- What Swap answers. -/
def swp (M : List Wd) (L : List En) : List Wd × Bool × Int := if chkM M L ≠ 0 then (M, false, chkM M L) else if holds M L then (upd M L, true, 0) else (M, false, 0)
def bare (M : List Wd) : List Wd := M.map fun x => (x.1, x.2.1, 0)
theorem take_snoc {α : Type} [Inhabited α] (L : List α) {k : Nat} (h : k < L.length) : L.take (k + 1) = L.take k ++ [L[k]!] := by
  rw [List.take_succ_eq_append_getElem h, getElem!_pos L k h]
theorem drop_cons {α : Type} [Inhabited α] (L : List α) {k : Nat} (h : k < L.length) : L.drop k = L[k]! :: L.drop (k + 1) := by
  rw [List.drop_eq_getElem_cons h, getElem!_pos L k h]
theorem mem_at {α : Type} [Inhabited α] {L : List α} {k : Nat} (h : k < L.length) : L[k]! ∈ L := by
  rw [getElem!_pos L k h]; exact List.getElem_mem _
theorem at_mem {α : Type} [Inhabited α] {L : List α} {x : α} (h : x ∈ L) : ∃ k, k < L.length ∧ L[k]! = x := by
  obtain ⟨k, hk, e⟩ := List.getElem_of_mem h
  exact ⟨k, hk, by rw [getElem!_pos L k hk]; exact e⟩
theorem fnd_yes {a : Int} {L : List En} {k : Nat} (hk : k < L.length) (h : L[k]!.1 = a) (hn : ∀ i, i < k → L[i]!.1 ≠ a) : fnd a L = k := by
  have e : fndN a L = k := by
    unfold fndN
    rw [List.findIdx_eq hk]
    rw [getElem!_pos L k hk] at h
    refine ⟨by simpa using h, fun j hj => ?_⟩
    have := hn j hj
    rw [getElem!_pos L j (by omega)] at this
    simpa using this
  unfold fnd
  rw [e, if_pos hk]
theorem fnd_no {a : Int} {L : List En} (hn : ∀ i, i < L.length → L[i]!.1 ≠ a) : fnd a L = -1 := by
  have e : fndN a L = L.length := by
    unfold fndN
    rw [List.findIdx_eq_length]
    intro x hx
    obtain ⟨k, hk, rfl⟩ := at_mem hx
    simpa using hn k hk
  unfold fnd
  rw [e, if_neg (Nat.lt_irrefl _)]
theorem fnd_range (a : Int) (L : List En) : -1 ≤ fnd a L ∧ fnd a L < (L.length : Int) + 1 := by
  unfold fnd
  split <;> omega
theorem upd1_len (M : List Wd) (e : En) : (upd1 M e).length = M.length := by
  unfold upd1
  split
  · rw [List.length_set]
  · rfl
theorem upd_len (M : List Wd) (L : List En) : (upd M L).length = M.length := by
  unfold upd
  induction L generalizing M with
  | nil => rfl
  | cons e r ih => rw [List.foldl_cons, ih, upd1_len]
theorem upd_take (M : List Wd) (L : List En) {k : Nat} (hk : k < L.length) : upd M (L.take (k + 1)) = upd1 (upd M (L.take k)) L[k]! := by
  unfold upd
  rw [take_snoc L hk, List.foldl_append]; rfl
theorem holds_take (M : List Wd) (L : List En) (h : ∀ i, i < L.length → holds1 M L[i]! = true) : holds M L = true := by
  unfold holds
  rw [List.all_eq_true]
  intro x hx
  obtain ⟨k, hk, rfl⟩ := at_mem hx
  exact h k hk
theorem holds_no (M : List Wd) (L : List En) {i : Nat} (hi : i < L.length) (h : holds1 M L[i]! = false) : holds M L = false := by
  unfold holds
  rw [List.all_eq_false]
  exact ⟨_, mem_at hi, by rw [h]; decide⟩
theorem hasL_yes (M : List Wd) (L : List En) (h : ∀ i, i < L.length → hasM M L[i]!.1 = true) : hasL M L = true := by
  unfold hasL
  rw [List.all_eq_true]
  intro x hx
  obtain ⟨k, hk, rfl⟩ := at_mem hx
  exact h k hk
theorem hasL_no (M : List Wd) (L : List En) {i : Nat} (hi : i < L.length) (h : hasM M L[i]!.1 = false) : hasL M L = false := by
  unfold hasL
  rw [List.all_eq_false]
  exact ⟨_, mem_at hi, by rw [h]; decide⟩
end Go.Proofs.YtjphhfgomlchoaaDoor
