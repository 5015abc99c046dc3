/- The contract of view.Below. -/
import Derived.Test.YtapaimoahiplcaaJoin
import Derived.OpenShut
import Derived.WalkKit
import Derived.WalkSpells
import Derived.WalkLawsBesides
import Derived.Carry
import Derived.Lib.Hide
import Derived.Maps.Own
import Derived.Maps.OwnOps
import Derived.Maps.OwnSet
import Derived.Maps.RangeWalk
import Derived.Maps.Ext
import Derived.Deep.LoopGhost
namespace Go.Proofs.Ytapaimoahiplcaa
open Go.RowKit Go.Shelf Go.Maps

/-- The pairs of ma that are no longer to come have no greater number than mb. -/
def Good (ma mb : List (Int × Int)) (left : Lit → Bool) : Prop := ∀ p ∈ ma, left (.int .i64 p.1) = false → p.2 ≤ atL mb p.1

theorem good_start (ma mb : List (Int × Int)) : Good ma mb (Maps.has (dat ma)) := fun p hp h => by
  rw [dat_has] at h
  have := List.any_eq_false.1 h p hp
  simp at this

theorem good_step {ma mb : List (Int × Int)} {left : Lit → Bool} {x c : Int} (ha : Ok ma) (hG : Good ma mb left) (hat : ∀ zd, (dat ma).atKey (.int .i64 x) zd = .lit (.int .i64 c)) (hc : c ≤ atL mb x) : Good ma mb (fun z => left z && !z.sameKey (.int .i64 x)) := fun p hp h => by
  by_cases e : p.1 = x
  · have := (came hat).2
    rw [← e, atL_mem ha.1 hp] at this
    rw [e]; omega
  · have : (Lit.int .i64 p.1).sameKey (.int .i64 x) = false := by simp [Lit.sameKey, e]
    simp [this] at h
    exact hG p hp h

theorem good_end {ma mb : List (Int × Int)} {left : Lit → Bool} (hG : Good ma mb left) (hl : ∀ k, left k = false) : belowL ma mb = true := by
  unfold belowL
  rw [List.all_eq_true]
  intro p hp
  simpa using hG p hp (hl _)

theorem good_no {ma mb : List (Int × Int)} {x c : Int} (ha : Ok ma) (hat : ∀ zd, (dat ma).atKey (.int .i64 x) zd = .lit (.int .i64 c)) (hc : atL mb x < c) : belowL ma mb = false := by
  obtain ⟨h1, h2⟩ := came hat
  obtain ⟨p, hp, e⟩ := has_mem h1
  unfold belowL
  rw [List.all_eq_false]
  refine ⟨p, hp, ?_⟩
  have := atL_mem ha.1 hp
  rw [e] at this
  simp [e]; omega

theorem ret_bool {a b : Bool} (h : a = b) : Ending.returned (.bool a) = .returned (.bool b) := by rw [h]

set_option maxRecDepth 100000 in
set_option maxHeartbeats 1600000 in
theorem below_some (ba na : Nat) (pb : Option Nat) (ma mb : List (Int × Int)) (w : World) (hoa : Ok ma) (hb : VW w pb mb) (hown : w.ownsMap Try.prog 23 (plainElem (H := Unit) Try.prog 3) ba na (dat ma)) :
    Calls Try.prog 18 #[.agg #[.map (some ba)], .agg #[.map pb]] w fun e w' => e = .returned (.bool (belowL ma mb)) ∧ Below w.heap.size w w' := by
  have HB := Lib.hid hb
  have OA := Lib.hid hoa
  have hbl := hown.lt
  have hown1 := (hown.alloc (.cells #[.map (some ba)] 28)).alloc (.cells #[.map pb] 28)
  clear hb hoa hown
  go_enter Try.func18, Try.ntmps18
  go_wp2_with (first
    | (at_range; refine wpList_range_own _ rfl _ 26 rfl 23 3 law Try.underlying26 _ ba na _ rfl hown1 ?_; intro w2 hrg0 hg0 hs0)
    | go_in)
  go_frame
  have e1 : ((w.alloc (.cells #[.map (some ba)] 28)).alloc (.cells #[.map pb] 28)).heap.size = w.heap.size + 1 + 1 := by simp
  rw [e1] at hrg0 hs0 ⊢
  go_loopw [5] (fun _ wr => ∃ (left : Lit → Bool) (cnt : Nat), wr.ranges Try.prog 23 (plainElem (H := Unit) Try.prog 3) ba (w.heap.size + 1 + 1) na (dat ma) left cnt ∧ Good ma mb left ∧
      Below (w.heap.size + 1 + 1) ((w.alloc (.cells #[.map (some ba)] 28)).alloc (.cells #[.map pb] 28)) wr)
    (fun _ wr => wr.rangeLeft ba (w.heap.size + 1 + 1))
  case atStart =>
    exact ⟨_, _, hrg0, good_start ma mb, (Below.refl _ _).grown hg0 (by simp) (fun j hj => by cases hj)⟩
  case round =>
    obtain ⟨left, cnt, hrg, hJ, hnx⟩ := hrel
    clear hrg0 hg0 hs0 hown1
    have HJ := Lib.hid hJ
    have NX := Lib.hid hnx
    clear hJ hnx
    go_wp2_with (first
      | (at_next; refine wpList_next_ranges_ii _ rfl _ rfl 23 3 .i64 .i64 law Try.underlying23 Try.underlying3 ba (w.heap.size + 1 + 1) na _ _ _ rfl hrg ?_ ?_)
      | go_in)
    · intro hc0 hl0
      have e := good_end HJ.out hl0
      have HE := Lib.hid e
      have B0 := Lib.hid ((b2 w _ _).trans (NX.out.mono (by omega)))
      clear hl0 hrg hc0 e
      go_wp2
      go_ret
      exact ⟨ret_bool HE.out.symm, B0.out⟩
    · intro x c w3 cnt1 hwx hwc hlx hat hrg1 hlt hg1 hs1 hen
      have hx := bounds_i64 hwx
      have NX1 := Lib.hid (NX.out.grown hg1 (by have := NX.out.size; simpa using this) (fun j hj => by cases hj; exact Nat.le_refl _))
      have c1 : w3.cell? ⟨w.heap.size + 1, 0, none⟩ = some (.map pb) := (NX1.out.cell (p := ⟨w.heap.size + 1, 0, none⟩) (by simp)).trans (by simp [go_sem])
      have V3 := Lib.hid (((HB.out.alloc (.cells #[.map (some ba)] 28)).alloc (.cells #[.map pb] 28)).below (by simpa using NX1.out))
      have HAT := Lib.hid hat
      have HRG := Lib.hid hrg
      have HRG1 := Lib.hid hrg1
      clear hlx hat hg1 hrg hrg1
      by_cases hc : c ≤ atL mb x
      · go_wp2_with fail
        refine (at_any pb mb x _ (by omega) (by omega) V3.out).mono ?_
        rintro e w' ⟨rfl, rfl⟩
        go_wp2
        go_roundw
        case rel =>
          exact ⟨_, cnt1, HRG1.out.kept (World.grownBy_alloc _ _ none) (by simp) (by simp), good_step OA.out HJ.out HAT.out hc, NX1.out.alloc (by have := NX1.out.size; simpa using this) _⟩
        case measure => rw [(HRG1.out.kept (World.grownBy_alloc _ _ none) (by simp) (by simp)).left_eq, HRG.out.left_eq]; exact hlt
      · have hc2 : atL mb x < c := by omega
        clear hc
        go_wp2_with fail
        refine (at_any pb mb x _ (by omega) (by omega) V3.out).mono ?_
        rintro e w' ⟨rfl, rfl⟩
        go_wp2
        go_ret
        exact ⟨ret_bool (good_no OA.out HAT.out hc2).symm, ((b2 w _ _).trans (NX1.out.mono (by omega))).alloc (by have := NX1.out.size; simp at this; omega) _⟩

set_option maxRecDepth 100000 in
set_option maxHeartbeats 1600000 in
theorem below_nil (pb : Option Nat) (w : World) :
    Calls Try.prog 18 #[.agg #[.map none], .agg #[.map pb]] w fun e w' => e = .returned (.bool true) ∧ Below w.heap.size w w' := by
  have hrg := run_range_nilMap (P := Try.prog) ((w.alloc (.cells #[.map none] 28)).alloc (.cells #[.map pb] 28)) 26 23 3 Try.underlying26
  have hnx : ∀ ty, (Instr.next (.pointer (some ⟨((w.alloc (.cells #[.map none] 28)).alloc (.cells #[.map pb] 28)).heap.size, 0, none⟩)) false ty).run Try.prog (((w.alloc (.cells #[.map none] 28)).alloc (.cells #[.map pb] 28)).alloc (.mapIter none 0 #[] 0)) = _ := fun ty => run_next_nilMap _ ty 0 0 #[]
  have e1 : ((w.alloc (.cells #[.map none] 28)).alloc (.cells #[.map pb] 28)).heap.size = w.heap.size + 1 + 1 := by simp
  rw [e1] at hrg hnx
  go_enter Try.func18, Try.ntmps18
  go_wp2
  refine wp_loop_rounds 1 ?_
  rw [rounds_succ]
  go_wp2
  go_ret
  exact ⟨rfl, b3 _ _ _ _⟩

theorem below_any (pa pb : Option Nat) (ma mb : List (Int × Int)) (w : World) (ha : VW w pa ma) (hb : VW w pb mb) :
    Calls Try.prog 18 #[.agg #[.map pa], .agg #[.map pb]] w fun e w' => e = .returned (.bool (belowL ma mb)) ∧ Below w.heap.size w w' := by
  obtain ⟨hoa, ⟨rfl, rfl⟩ | ⟨ba, na, rfl, _, h3⟩⟩ := ha
  · exact below_nil pb w
  · exact below_some ba na pb ma mb w hoa hb h3
end Go.Proofs.Ytapaimoahiplcaa
