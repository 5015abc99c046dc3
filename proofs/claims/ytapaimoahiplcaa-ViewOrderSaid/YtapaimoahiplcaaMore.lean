/- More small forms of the contracts; the order of plain views. -/
import Derived.Test.YtapaimoahiplcaaBool
namespace Go.Proofs.Ytapaimoahiplcaa
open Go.RowKit Go.Shelf Go.Maps

theorem same_is {pa pb : Option Nat} {ma mb : List (Int × Int)} {r : Bool} {w : World} (hr : decide (ma = mb) = r) (ha : VW w pa ma) (hb : VW w pb mb) :
    Calls Try.prog 22 #[.agg #[.map pa], .agg #[.map pb]] w fun e w' => e = .returned (.bool r) ∧ Below w.heap.size w w' := by
  subst hr
  exact same_any pa pb ma mb w ha hb
theorem rbelow_is {va vb : Value} {a b : List (Int × Int)} {r : Bool} {w : World} (hr : belowL a b = r) (oa : Ok a) (ob : Ok b) (ha : IsP w va a) (hb : IsP w vb b) :
    Calls Try.prog 19 #[va, vb] w fun e w' => e = .returned (.bool r) ∧ Below w.heap.size w w' := by
  subst hr
  exact rbelow_any va vb a b w oa ob ha hb

theorem at_isB {p : Option Nat} {m : List (Int × Int)} {x y : Int} {w : World} (h0 : -9223372036854775808 ≤ x) (h1 : x < 9223372036854775808) (ha : atL m x = y) (hv : VW w p m) :
    Calls Try.prog 14 #[.agg #[.map p], .int .i64 x] w fun e w' => e = .returned (.int .i64 y) ∧ Below w.heap.size w w' := by
  subst ha
  exact at_anyB p m x w h0 h1 hv
theorem below_refl {a : List (Int × Int)} (h : Ok a) : belowL a a = true := (belowL_iff h h).2 fun _ => Int.le_refl _
theorem below_anti {a b : List (Int × Int)} (ha : Ok a) (hb : Ok b) (h1 : belowL a b = true) (h2 : belowL b a = true) : a = b :=
  ext_atL ha hb fun l => Int.le_antisymm ((belowL_iff ha hb).1 h1 l) ((belowL_iff hb ha).1 h2 l)
theorem same_dec {a b : List (Int × Int)} (ha : Ok a) (hb : Ok b) : decide (a = b) = (belowL a b && belowL b a) := by
  by_cases h : a = b
  · subst h
    simp [below_refl ha]
  · simp only [h, decide_false]
    cases h1 : belowL a b
    · simp
    · cases h2 : belowL b a
      · simp
      · exact absurd (below_anti ha hb h1 h2) h
theorem ok_join {a b : List (Int × Int)} (oa : Ok a) (ob : Ok b) : Ok (joinL a b) := ok_joinL oa (fun p hp => (ob.2 p hp).2.2)
theorem join_comm {a b : List (Int × Int)} (ha : Ok a) (hb : Ok b) : joinL a b = joinL b a :=
  ext_atL (ok_join ha hb) (ok_join hb ha) fun l => by rw [atL_joinL ha hb, atL_joinL hb ha, Int.max_comm]
theorem join_assoc {a b c : List (Int × Int)} (ha : Ok a) (hb : Ok b) (hc : Ok c) : joinL (joinL a b) c = joinL a (joinL b c) :=
  ext_atL (ok_join (ok_join ha hb) hc) (ok_join ha (ok_join hb hc)) fun l => by
    rw [atL_joinL (ok_join ha hb) hc, atL_joinL ha hb, atL_joinL ha (ok_join hb hc), atL_joinL hb hc]
    omega
theorem join_idem {a b : List (Int × Int)} (ha : Ok a) (hb : Ok b) : joinL (joinL a b) a = joinL a b :=
  ext_atL (ok_join (ok_join ha hb) ha) (ok_join ha hb) fun l => by
    rw [atL_joinL (ok_join ha hb) ha, atL_joinL ha hb]
    omega
theorem below_left {a b : List (Int × Int)} (ha : Ok a) (hb : Ok b) : belowL a (joinL a b) = true :=
  (belowL_iff ha (ok_join ha hb)).2 fun l => by rw [atL_joinL ha hb]; omega
theorem below_right {a b : List (Int × Int)} (ha : Ok a) (hb : Ok b) : belowL b (joinL a b) = true :=
  (belowL_iff hb (ok_join ha hb)).2 fun l => by rw [atL_joinL ha hb]; omega
theorem below_least {a b c : List (Int × Int)} (ha : Ok a) (hb : Ok b) (hc : Ok c) (h1 : belowL a c = true) (h2 : belowL b c = true) : belowL (joinL a b) c = true :=
  (belowL_iff (ok_join ha hb) hc).2 fun l => by
    have := (belowL_iff ha hc).1 h1 l
    have := (belowL_iff hb hc).1 h2 l
    rw [atL_joinL ha hb]; omega
theorem below_join_eq {a b : List (Int × Int)} (ha : Ok a) (hb : Ok b) : decide (joinL a b = b) = belowL a b := by
  cases h : belowL a b
  · rw [decide_eq_false_iff_not]
    intro e
    have := below_left ha hb
    rw [e, h] at this
    cases this
  · rw [decide_eq_true_eq]
    refine ext_atL (ok_join ha hb) hb fun l => ?_
    have := (belowL_iff ha hb).1 h l
    rw [atL_joinL ha hb]; omega
end Go.Proofs.Ytapaimoahiplcaa
