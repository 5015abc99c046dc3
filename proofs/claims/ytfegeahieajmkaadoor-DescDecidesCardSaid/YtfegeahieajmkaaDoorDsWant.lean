/- What DescWords asks of Words, in order. -/
import Derived.Test.YtfegeahieajmkaaDoorDsRFits
import Derived.Test.YtfegeahieajmkaaDoorDsRWords
import Derived.Test.YtfegeahieajmkaaDoorDsSmall
import Derived.Test.YtfegeahieajmkaaDoorDsAwake
import Derived.Deep.DeepCutAuto
namespace Go.Proofs.YtfegeahieajmkaaDoor
open Go.ChangeShapes Go.WideShapes Go.ChangeAt Go.RowKit Go.Maps
open Lay (startL checkI placeI mayI sizeI Ok starts checkI_ok)
/-- The error that the law expects of the locations: that of May, overridden by the order's. -/
def locE (T C B : Int) (L : List En) : Int := if ascB L = false then 12 else if mayL T C B L = false then 10 else 0
theorem locE_may {T C B : Int} {L : List En} {k : Nat} (h : ∀ i, i < k → mayI T C B L[i]!.1 = true) (hk : k = L.length) : mayL T C B L = true := mayL_yes (fun i hi => h i (by omega))
theorem chkD_of {T C B : Nat} (h : Ok T C B) (a b c : Int) (L : List En) : chkD T C B (a, b, c, L) = if (placeI T C B a).2 = 0 ∨ b < 1 ∨ 16777215 < b then 3 else if c < 0 ∨ 3 < c then 2 else if chkL L ≠ 0 then chkL L else if locE T C B L ≠ 0 then locE T C B L else if (placeI T C B a).2 < L.length then 15 else 0 := by
  unfold chkD
  rw [checkI_ok h, if_neg (by simp)]
  simp only
  by_cases h1 : (placeI T C B a).2 = 0
  · rw [if_pos h1, if_pos (Or.inl h1)]
  rw [if_neg h1]
  by_cases h2 : b < 1 ∨ 16777215 < b
  · rw [if_pos h2, if_pos (Or.inr h2)]
  have h12 : ¬ ((placeI T C B a).2 = 0 ∨ b < 1 ∨ 16777215 < b) := fun h => h.elim h1 h2
  rw [if_neg h2, if_neg h12]
  by_cases h3 : c < 0 ∨ 3 < c
  · rw [if_pos h3, if_pos h3]
  rw [if_neg h3, if_neg h3]
  by_cases h4 : chkL L = 0
  case neg => rw [if_pos h4, if_pos h4]
  have h44 : ¬ (chkL L ≠ 0) := fun h => h h4
  rw [if_neg h44, if_neg h44]
  unfold locE
  cases h5 : ascB L with
  | false => simp
  | true =>
    cases h6 : mayL T C B L with
    | false => simp
    | true => simp
theorem mayL_take {T C B : Int} (L : List En) {k : Nat} (hk : k < L.length) : mayL T C B (L.take (k + 1)) = (mayL T C B (L.take k) && mayI T C B L[k]!.1) := by
  unfold mayL
  rw [take_snoc L hk, List.all_append]
  simp
theorem ascB_take (L : List En) {k : Nat} (hk : k < L.length) : ascB (L.take (k + 1)) = (ascB (L.take k) && (decide (k = 0) || decide (L[k - 1]!.1 < L[k]!.1))) := by
  have e : ∀ j i, j ≤ L.length → i < j → (L.take j)[i]! = L[i]! := fun j i h1 h2 => by
    rw [getElem!_pos _ i (by rw [List.length_take]; omega), getElem!_pos L i (by omega)]; simp
  have hl : ∀ j, j ≤ L.length → (L.take j).length = j := fun j h => by rw [List.length_take]; omega
  unfold ascB
  rw [hl _ (by omega), hl _ (by omega), List.range_succ, List.all_append]
  congr 1
  · rw [Bool.eq_iff_iff, List.all_eq_true, List.all_eq_true]
    constructor <;>
    · intro h i hi
      have hik := List.mem_range.1 hi
      have := h i hi
      rw [e (k + 1) i (by omega) (by omega), e (k + 1) (i - 1) (by omega) (by omega)] at *
      rw [e k i (by omega) (by omega), e k (i - 1) (by omega) (by omega)] at *
      exact this
  · simp only [List.all_cons, List.all_nil, Bool.and_true]
    rw [e _ k (by omega) (by omega)]
    rcases Nat.eq_zero_or_pos k with h | h
    · simp [h]
    · rw [e _ (k - 1) (by omega) (by omega)]
theorem words_any (T C B a b c : Int) (v : Value) (L : List En) (w : World) (hg : Lay.Gl w) (hv : ES w v L) (hl : L.length ≤ 1000) (ha : a < 9223372036854775808) : Calls Tryd.prog 13 #[.agg #[.int .i64 T, .int .i64 C, .int .i64 B], dV a b c v] w fun e w' => ∃ u, e = .returned (.tuple #[u, .int .i64 (chkD T C B (a, b, c, L))]) ∧ (chkD T C B (a, b, c, L) = 0 → WS w' u (wordsD (a, b, c, L))) ∧ (chkD T C B (a, b, c, L) ≠ 0 → u = .slice none 0 0) ∧ (∃ x n c, u = .slice x n c) ∧ Below w.heap.size w w' := by
  by_cases h : chkD T C B (a, b, c, L) = 0
  · refine (words_ok T C B a b c v L w hg hv hl ha h).mono ?_
    rintro e w' ⟨u, rfl, hr, hb⟩
    obtain ⟨x, n, hu, _⟩ := hr.form
    exact ⟨u, by rw [h], fun _ => hr.sk, fun h' => absurd h h', ⟨_, _, _, hu⟩, hb⟩
  · refine (words_no T C B a b c v L w hg hv hl ha h).mono ?_
    rintro e w' ⟨rfl, hb⟩
    exact ⟨_, rfl, fun h' => absurd h' h, fun _ => rfl, ⟨_, _, _, rfl⟩, hb⟩
end Go.Proofs.YtfegeahieajmkaaDoor
