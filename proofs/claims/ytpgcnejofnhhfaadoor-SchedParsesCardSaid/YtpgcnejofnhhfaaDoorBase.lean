/- Schedules as lists, and the slices that hold them; the small functions of package sched. -/
import Derived.Test.YtpgcnejofnhhfaaDoorProg
import Derived.WalkKit
import Derived.WalkSpells
import Derived.WalkLawsBesides
import Derived.ProofKit
import Derived.OpenShut
import Derived.Lib.Hide
import Derived.IntWalk
import Derived.Deep.LoopGhost
import Derived.Deep.RegionHeld3
namespace Go.Proofs.YtpgcnejofnhhfaaDoor
open Go.ChangeShapes Go.WideShapes Go.ChangeAt Go.RowKit

/-- A pick: its kind, its thread and its choice. -/
abbrev Pk := Int × Int × Int
def zPk : Pk := (0, 0, 0)
/-- The cells of block b from off on read as the picks L. -/
def Rd (w : World) (b off : Nat) (L : List Pk) : Prop :=
  ∀ i, i < L.length → w.cell? ⟨b, off + i * 3, none⟩ = some (.int .i64 (L.getD i zPk).1) ∧ w.cell? ⟨b, off + i * 3 + 1, none⟩ = some (.int .i64 (L.getD i zPk).2.1) ∧ w.cell? ⟨b, off + i * 3 + 2, none⟩ = some (.int .i64 (L.getD i zPk).2.2)
/-- The slice v reads as the picks L. -/
def PS (w : World) (v : Value) (L : List Pk) : Prop :=
  ∃ a cap, v = .slice a L.length cap ∧ (L = [] ∨ ∃ b off, a = some ⟨b, off, none⟩ ∧ b < w.heap.size ∧ Rd w b off L)
theorem PS.below {w w1 : World} {v : Value} {L : List Pk} (h : PS w v L) (hb : Below w.heap.size w w1) : PS w1 v L := by
  obtain ⟨a, cap, hv, h | ⟨b, off, ha, hl, hc⟩⟩ := h
  · exact ⟨a, cap, hv, .inl h⟩
  · exact ⟨a, cap, hv, .inr ⟨b, off, ha, Nat.lt_of_lt_of_le hl hb.size, fun i hi => ⟨(hb.cell hl).trans (hc i hi).1, (hb.cell hl).trans (hc i hi).2.1, (hb.cell hl).trans (hc i hi).2.2⟩⟩⟩
theorem PS.nil (w : World) (a : Option Addr) (cap : Nat) : PS w (.slice a 0 cap) [] := ⟨a, cap, rfl, .inl rfl⟩
def I64 (x : Int) : Prop := -9223372036854775808 ≤ x ∧ x < 9223372036854775808
def PkOk (L : List Pk) : Prop := ∀ p ∈ L, I64 p.1 ∧ I64 p.2.1 ∧ I64 p.2.2
theorem PkOk.at {L : List Pk} (h : PkOk L) {k : Nat} (hk : k < L.length) : I64 (L.getD k zPk).1 ∧ I64 (L.getD k zPk).2.1 ∧ I64 (L.getD k zPk).2.2 := by
  rw [List.getD, List.getElem?_eq_getElem hk]
  exact h _ (List.getElem_mem hk)
theorem take_succ_getD (L : List Pk) {k : Nat} (h : k < L.length) : L.take (k + 1) = L.take k ++ [L.getD k zPk] := by
  rw [List.take_succ_eq_append_getElem h, List.getD, List.getElem?_eq_getElem h]; rfl
theorem below1 (w : World) (o : Obj) : Below w.heap.size w (w.alloc o) := (Below.refl _ _).alloc (Nat.le_refl _) o

/-- Whether a schedule of n steps of so many threads may be generated. -/
def fitsL (t n : Int) : Bool := decide (1 ≤ t ∧ t ≤ 8 ∧ 0 ≤ n ∧ n ≤ 4096)
theorem fits_any (t n : Int) (w : World) : Calls Tryd.prog 32 #[.int .i64 t, .int .i64 n] w fun e w' => e = .returned (.bool (fitsL t n)) ∧ w = w' := by
  have hf : fitsL t n = decide (1 ≤ t ∧ t ≤ 8 ∧ 0 ≤ n ∧ n ≤ 4096) := rfl
  by_cases h1 : 1 ≤ t
  · by_cases h2 : t ≤ 8
    · by_cases h3 : 0 ≤ n
      · by_cases h4 : n ≤ 4096
        · rw [show fitsL t n = true by rw [hf]; simp; omega]
          clear hf
          go_enter Tryd.func32, Tryd.ntmps32
          go_wp2
          go_ret
          exact ⟨by simp; try omega, rfl⟩
        · rw [show fitsL t n = false by rw [hf]; simp; omega]
          clear hf
          go_enter Tryd.func32, Tryd.ntmps32
          go_wp2
          go_ret
          exact ⟨by simp; try omega, rfl⟩
      · rw [show fitsL t n = false by rw [hf]; simp; omega]
        clear hf
        go_enter Tryd.func32, Tryd.ntmps32
        go_wp2
        go_ret
        exact ⟨by simp; try omega, rfl⟩
    · rw [show fitsL t n = false by rw [hf]; simp; omega]
      clear hf
      go_enter Tryd.func32, Tryd.ntmps32
      go_wp2
      go_ret
      exact ⟨by simp; try omega, rfl⟩
  · rw [show fitsL t n = false by rw [hf]; simp; omega]
    clear hf
    go_enter Tryd.func32, Tryd.ntmps32
    go_wp2
    go_ret
    exact ⟨by simp; try omega, rfl⟩

/-- The number of steps of a thread. -/
def countL (t : Int) : List Pk → Nat
  | [] => 0
  | p :: r => (if p.1 = 0 ∧ p.2.1 = t then 1 else 0) + countL t r
theorem countL_app (t : Int) (a b : List Pk) : countL t (a ++ b) = countL t a + countL t b := by
  induction a with
  | nil => simp [countL]
  | cons p r ih => simp only [List.cons_append, countL, ih]; omega
theorem countL_succ (t : Int) (L : List Pk) {k : Nat} (h : k < L.length) : countL t (L.take (k + 1)) = countL t (L.take k) + (if (L.getD k zPk).1 = 0 ∧ (L.getD k zPk).2.1 = t then 1 else 0) := by
  rw [take_succ_getD L h, countL_app]; simp [countL]
theorem countL_le (t : Int) (L : List Pk) : countL t L ≤ L.length := by
  induction L with
  | nil => simp [countL]
  | cons p r ih => simp only [countL, List.length_cons]; split <;> omega

set_option maxRecDepth 100000 in
set_option maxHeartbeats 800000 in
theorem count_any (t : Int) (v : Value) (L : List Pk) (w : World) (hl : L.length ≤ 100000) (h : PS w v L) :
    Calls Tryd.prog 22 #[.int .i64 t, v] w fun e w' => e = .returned (.int .i64 (countL t L)) ∧ Below w.heap.size w w' := by
  obtain ⟨a, cap, rfl, h⟩ := h
  have H := Lib.hid h
  clear h
  obtain ⟨n, hn⟩ : ∃ n, L.length = n := ⟨_, rfl⟩
  rw [hn]
  rw [hn] at hl
  go_enter Tryd.func22, Tryd.ntmps22
  go_wp2
  go_loopw [5, 10] (fun cv iv wr => ∃ k : Nat, k ≤ n ∧ iv = .int .i64 k ∧ cv = .int .i64 (countL t (L.take k)) ∧ Below w.heap.size w wr) (fun _ iv _ => n - (intOf iv).toNat)
  case atStart => exact ⟨0, by omega, rfl, rfl, Below.refl _ _⟩
  case round =>
    obtain ⟨k, hk, rfl, rfl, hb⟩ := hrel
    have BB := Lib.hid hb
    clear hb
    have hcl := countL_le t (L.take k)
    rw [List.length_take] at hcl
    have hcl2 : countL t (L.take k) ≤ 100000 := by omega
    clear hcl
    by_cases hlt : k < n
    · rcases H.out with h | ⟨b, off, rfl, hbl, hc⟩
      · subst h; simp at hn; omega
      obtain ⟨c0, c1, c2⟩ := hc k (by omega)
      rw [← BB.out.cell hbl] at c0 c1 c2
      have HS := Lib.hid (countL_succ t L (k := k) (by omega))
      clear hc
      generalize (L.getD k zPk).1 = x0 at *
      generalize (L.getD k zPk).2.1 = x1 at *
      generalize (L.getD k zPk).2.2 = x2 at *
      generalize countL t (L.take k) = m at *
      by_cases hx0 : x0 = 0
      · subst hx0
        by_cases hx1 : x1 = t
        · subst hx1
          go_wp2
          go_roundw
          case rel => exact ⟨k + 1, by omega, by go_num, by rw [HS.out]; simp, BB.out.trans ((below1 _ _).mono BB.out.size)⟩
          case measure => simp [intOf]; omega
        · have hx1b : (x1 == t) = false := by rw [beq_eq_false_iff_ne]; exact hx1
          go_wp2
          go_roundw
          case rel => exact ⟨k + 1, by omega, by go_num, by rw [HS.out]; simp [hx1], BB.out.trans ((below1 _ _).mono BB.out.size)⟩
          case measure => simp [intOf]; omega
      · have hx0b : (x0 == 0) = false := by rw [beq_eq_false_iff_ne]; exact hx0
        go_wp2
        go_roundw
        case rel => exact ⟨k + 1, by omega, by go_num, by rw [HS.out]; simp [hx0], BB.out.trans ((below1 _ _).mono BB.out.size)⟩
        case measure => simp [intOf]; omega
    · go_wp2
      go_ret
      refine ⟨?_, BB.out⟩
      obtain rfl : k = n := by omega
      rw [← hn, List.take_length]; rfl
end Go.Proofs.YtpgcnejofnhhfaaDoor
