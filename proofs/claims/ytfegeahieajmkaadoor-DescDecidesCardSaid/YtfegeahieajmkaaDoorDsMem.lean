/- Memory images in which words have been stored one after another. -/
import Derived.Test.YtfegeahieajmkaaDoorDsPuts
import Derived.Test.YtfegeahieajmkaaDoorDsBack
namespace Go.Proofs.YtfegeahieajmkaaDoor
open Go.ChangeShapes Go.WideShapes Go.ChangeAt Go.RowKit Go.Maps
open Lay (startL checkI placeI mayI sizeI Ok starts checkI_ok)
/-- The first k words of P stored, each at its place. -/
def putsM (f : Int × Wd → Nat) (M : List Wd) (P : List (Int × Wd)) : Nat → List Wd
  | 0 => M
  | k + 1 => (putsM f M P k).set (f P[k]!) (P[k]!).2
theorem putsM_len (f : Int × Wd → Nat) (M : List Wd) (P : List (Int × Wd)) (k : Nat) : (putsM f M P k).length = M.length := by
  induction k with
  | zero => rfl
  | succ k ih => unfold putsM; rw [List.length_set, ih]
theorem putsM_ok (f : Int × Wd → Nat) {M : List Wd} {P : List (Int × Wd)} (hM : ∀ x ∈ M, OkW x) (hP : ∀ p ∈ P, OkP p) {k : Nat} (hk : k ≤ P.length) : ∀ x ∈ putsM f M P k, OkW x := by
  induction k with
  | zero => exact hM
  | succ k ih =>
    unfold putsM
    exact ok_set (ih (by omega)) _ (hP _ (mem_at (by omega))).2
/-- The word that stands for an entry's location while the operation of the reference r holds it. -/
def heldW (r : Int) (e : En) : Wd := (e.2.1.1, e.2.1.2.1, r)
/-- The locations of the first k entries held by the reference r, but for each third one and those that a swap may not access. -/
def heldM (T C B : Int) (r : Int) (M : List Wd) (L : List En) : Nat → List Wd
  | 0 => M
  | k + 1 => if k % 3 ≠ 2 ∧ mayI T C B L[k]!.1 = true then (heldM T C B r M L k).set (L[k]!.1).toNat (heldW r L[k]!) else heldM T C B r M L k
theorem heldM_len (T C B : Int) (r : Int) (M : List Wd) (L : List En) (k : Nat) : (heldM T C B r M L k).length = M.length := by
  induction k with
  | zero => rfl
  | succ k ih =>
    unfold heldM
    split
    · rw [List.length_set, ih]
    · exact ih
theorem heldM_ok (T C B : Int) {r : Int} {M : List Wd} {L : List En} (hM : ∀ x ∈ M, OkW x) (hL : ∀ e ∈ L, OkE e) (hr : 0 ≤ r ∧ r < 4294967296) {k : Nat} (hk : k ≤ L.length) : ∀ x ∈ heldM T C B r M L k, OkW x := by
  induction k with
  | zero => exact hM
  | succ k ih =>
    unfold heldM
    split
    · obtain ⟨_, ⟨h2, h3, _⟩, _⟩ := hL _ (mem_at (L := L) (k := k) (by omega))
      exact ok_set (ih (by omega)) _ ⟨h2, h3, hr⟩
    · exact ih (by omega)
/-- The first k words of P stored behind the place pa, if there is one. -/
def putM (pa : Int) (M : List Wd) (P : List (Int × Wd)) (k : Nat) : List Wd := if pa < 0 then M else putsM (fun p => pa.toNat + p.1.toNat % 12) M P k
theorem putM_zero (pa : Int) (M : List Wd) (P : List (Int × Wd)) : putM pa M P 0 = M := by unfold putM; split <;> rfl
theorem putM_len (pa : Int) (M : List Wd) (P : List (Int × Wd)) (k : Nat) : (putM pa M P k).length = M.length := by
  unfold putM
  split
  · rfl
  · exact putsM_len _ _ _ _
theorem putM_ok (pa : Int) {M : List Wd} {P : List (Int × Wd)} (hM : ∀ x ∈ M, OkW x) (hP : ∀ p ∈ P, OkP p) {k : Nat} (hk : k ≤ P.length) : ∀ x ∈ putM pa M P k, OkW x := by
  unfold putM
  split
  · exact hM
  · exact putsM_ok _ hM hP hk
theorem putM_no {pa : Int} (h : pa < 0) (M : List Wd) (P : List (Int × Wd)) (k : Nat) : putM pa M P (k + 1) = putM pa M P k := by unfold putM; rw [if_pos h, if_pos h]
theorem putM_yes (p : Nat) (M : List Wd) (P : List (Int × Wd)) (k : Nat) : putM (p : Int) M P (k + 1) = (putM (p : Int) M P k).set (p + (P[k]!).1.toNat % 12) (P[k]!).2 := by
  unfold putM
  rw [if_neg (by omega), if_neg (by omega)]
  rfl
theorem rdD_no {T C B : Int} {M : List Wd} {a r : Int} (h : rdE T C B M a = r) (hr : r ≠ 0) : rdD T C B M a = zD := by unfold rdD; rw [if_neg (by rw [h]; exact hr)]
end Go.Proofs.YtfegeahieajmkaaDoor
