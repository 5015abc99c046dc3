/- The contract of view.Join. -/
import Derived.Test.YtbaljoehgdhhhaaViewMem
import Derived.OpenShut
import Derived.WalkKit
import Derived.WalkSpells
import Derived.WalkLawsBesides
import Derived.Carry
import Derived.Lib.Hide
import Derived.Maps.Own
import Derived.Maps.OwnOps
import Derived.Maps.OwnSet
import Derived.Maps.RangeWalk
import Derived.Maps.Ext
import Derived.Deep.LoopGhost
namespace Go.Proofs.Ytbaljoehgdhhhaa
open Go.RowKit Go.Shelf Go.Maps

/-- mc holds the greater numbers of ma and mb at the locations of mb that are no longer to come, and ma's elsewhere. -/
def Joined (mc ma mb : List (Int × Int)) (left : Lit → Bool) : Prop :=
  Ok mc ∧ ∀ l, atL mc l = if (Maps.has (dat mb) (.int .i64 l) && !left (.int .i64 l)) = true then max (atL ma l) (atL mb l) else atL ma l

theorem joined_start {ma mb : List (Int × Int)} (ha : Ok ma) : Joined ma ma mb (Maps.has (dat mb)) := by
  refine ⟨ha, fun l => ?_⟩
  rw [if_neg (by cases Maps.has (dat mb) (.int .i64 l) <;> simp)]

theorem joined_step {mc ma mb : List (Int × Int)} {left : Lit → Bool} {x c : Int} (hb : Ok mb) (hJ : Joined mc ma mb left) (hat : ∀ zd, (dat mb).atKey (.int .i64 x) zd = .lit (.int .i64 c)) (hx : left (.int .i64 x) = true) (hc : c < 9223372036854775808) :
    Joined (if c ≤ atL mc x then mc else insL mc x c) ma mb (fun z => left z && !z.sameKey (.int .i64 x)) := by
  obtain ⟨hh, hc2⟩ := came hat
  obtain ⟨p, hp, e⟩ := has_mem hh
  have hv := (hb.2 p hp).1
  rw [with_raise mc x c (by omega)]
  refine ⟨ok_withL hJ.1 hc, fun l => ?_⟩
  rw [atL_withL hJ.1]
  by_cases e2 : l = x
  · subst e2
    rw [if_pos ⟨rfl, by omega, by omega⟩, hJ.2 l, hh, hx, hc2]
    simp [Lit.sameKey]
  · rw [if_neg (fun h => e2 h.1), hJ.2 l]
    have : (Lit.int .i64 l).sameKey (.int .i64 x) = false := by simp [Lit.sameKey, e2]
    simp [this]

theorem joined_end {mc ma mb : List (Int × Int)} {left : Lit → Bool} (ha : Ok ma) (hb : Ok mb) (hJ : Joined mc ma mb left) (hl : ∀ k, left k = false) : mc = joinL ma mb := by
  refine ext_atL hJ.1 (ok_joinL ha (fun p hp => (hb.2 p hp).2.2)) fun l => ?_
  rw [hJ.2 l, atL_joinL ha hb, hl]
  cases h : Maps.has (dat mb) (.int .i64 l)
  · have := has_false h
    have := atL_bd ha l
    simp; omega
  · simp

theorem b3 (w : World) (a b c : Obj) : Below w.heap.size w (((w.alloc a).alloc b).alloc c) := (b2 w a b).alloc (by simp; omega) _

set_option maxRecDepth 100000 in
set_option maxHeartbeats 1600000 in
theorem join_some (pa : Option Nat) (bb nb : Nat) (ma mb : List (Int × Int)) (w : World) (ha : VW w pa ma) (hob : Ok mb) (hown : w.ownsMap Try.prog 42 (plainElem (H := Unit) Try.prog 3) bb nb (dat mb)) :
    Calls Try.prog 54 #[.agg #[.map pa], .agg #[.map (some bb)]] w (NewView w (joinL ma mb)) := by
  have HA := Lib.hid ha
  have la := ok_length ha.1
  have lb := ok_length hob
  have hbl := hown.lt
  have OA := Lib.hid ha.1
  have OB := Lib.hid hob
  clear ha hob
  go_enter Try.func54, Try.ntmps54
  go_wp2_with fail
  refine (copy_any pa ma _ (((HA.out.alloc _).alloc _).alloc _)).mono ?_
  rintro e w1 ⟨rfl, ho, hb⟩
  simp only [World.size_alloc] at ho hb
  have c1 : w1.cell? ⟨w.heap.size + 1, 0, none⟩ = some (.map (some bb)) := (hb.cell (p := ⟨w.heap.size + 1, 0, none⟩) (by simp)).trans (by simp [go_sem])
  have hown1 : w1.ownsMap Try.prog 42 (plainElem (H := Unit) Try.prog 3) bb nb (dat mb) := owns_below (owns_below hown (b3 w _ _ _)) (by simpa using hb)
  have O := Lib.hid ho
  have B := Lib.hid hb
  have OW := Lib.hid hown
  clear ho hb hown HA
  go_wp2_with (first
    | (at_range; refine wpList_range_own _ rfl _ 58 rfl 42 3 law Try.underlying58 _ bb nb _ rfl hown1 ?_; intro w2 hrg0 hg0 hs0)
    | go_in)
  go_frame
  have hlt1 : w.heap.size + 1 + 1 + 1 ≤ w1.heap.size := by have := B.out.size; simpa using this
  have hne : w.heap.size + 1 + 1 + 1 < w1.heap.size := by have := O.out.lt; omega
  go_loopw [6] (fun _ wr => ∃ (left : Lit → Bool) (cnt : Nat) (mc : List (Int × Int)), wr.ranges Try.prog 42 (plainElem (H := Unit) Try.prog 3) bb w1.heap.size nb (dat mb) left cnt ∧ cnt ≤ mb.length ∧
      wr.ownsMap Try.prog 42 (plainElem (H := Unit) Try.prog 3) (w.heap.size + 1 + 1 + 1) (ma.length + (mb.length - cnt)) (dat mc) ∧ Joined mc ma mb left ∧
      Below (w.heap.size + 1 + 1 + 1) (((w.alloc (.cells #[.map pa] 60)).alloc (.cells #[.map (some bb)] 60)).alloc (.cells #[.map none] 60)) wr)
    (fun _ wr => wr.rangeLeft bb w1.heap.size)
  case atStart =>
    exact ⟨_, _, ma, hrg0, by rw [dat_size]; exact Nat.le_refl _, (O.out.kept hg0 (by simp)).mono (Nat.le_add_right _ _), joined_start OA.out, B.out.grown hg0 (by simpa using hlt1) (fun j hj => by cases hj)⟩
  case round =>
    obtain ⟨left, cnt, mc, hrg, hcs, hout, hJ, hnx⟩ := hrel
    clear hrg0 hg0 hs0 c1 hown1
    have HJ := Lib.hid hJ
    have NX := Lib.hid hnx
    have HO := Lib.hid hout
    clear hJ hnx hout
    go_wp2_with (first
      | (at_next; refine wpList_next_ranges_ii _ rfl _ rfl 42 3 .i64 .i64 law Try.underlying42 Try.underlying3 bb w1.heap.size nb _ _ _ rfl hrg ?_ ?_)
      | go_in)
    · intro hc0 hl0
      have e := joined_end OA.out OB.out HJ.out hl0
      subst e
      have c0 : wr.cell? ⟨w.heap.size + 1 + 1, 0, none⟩ = some (.map none) := (NX.out.cell (p := ⟨w.heap.size + 1 + 1, 0, none⟩) (by simp)).trans (by simp [go_sem])
      have f0 : wr.frozen? ⟨w.heap.size + 1 + 1, 0, none⟩ = false := (NX.out.frozen (p := ⟨w.heap.size + 1 + 1, 0, none⟩) (by simp)).trans (by simp [go_sem])
      have B0 := Lib.hid ((b3 w _ _ _).trans (NX.out.mono (by omega)))
      have HL := Lib.hid hl0
      clear hl0 hrg hc0
      go_wp2
      refine bodyPost_ret (v := .agg #[.map (some (w.heap.size + 1 + 1 + 1))]) (by simp [results, Try.results54, go_sem, c0]) rfl ?_
      exact ⟨w.heap.size + 1 + 1 + 1, by omega, rfl, ⟨HJ.out.1, .inr ⟨_, _, rfl, by omega, HO.out.setCell (by simp) _⟩⟩, B0.out.setCell (by simp; omega) _⟩
    · intro x c w3 cnt1 hwx hwc hlx hat hrg1 hlt hg1 hs1 hen
      have hx := bounds_i64 hwx
      have hc := bounds_i64 hwc
      have hr1 := raise_any (w.heap.size + 1 + 1 + 1) (ma.length + (mb.length - cnt)) mc x c w3 HJ.out.1 (by omega) (by omega) (by omega) (by omega) (by omega) (HO.out.kept hg1 (by simp; omega))
      have HR := Lib.hid hr1
      have HX := Lib.hid hlx
      have HAT := Lib.hid hat
      have HG1 := Lib.hid hg1
      have HRG := Lib.hid hrg
      have HRG1 := Lib.hid hrg1
      clear hr1 hlx hat hg1 hrg hrg1
      go_wp2_with fail
      refine HR.out.mono ?_
      rintro e w4 ⟨rfl, ho4, hg4⟩
      have hrg2 := HRG1.out.kept hg4 (fun e => by have := Option.some.inj e; omega) (fun e => by have := Option.some.inj e; omega)
      have O4 := Lib.hid ho4
      have G4 := Lib.hid hg4
      have RG := Lib.hid hrg2
      clear ho4 hg4 hrg2
      go_wp2
      go_roundw
      case rel =>
        exact ⟨_, cnt1, _, RG.out, by omega, O4.out.mono (by omega), joined_step OB.out HJ.out HAT.out HX.out (by omega),
          (NX.out.grown HG1.out (by have := NX.out.size; simp at this ⊢; omega) (fun j hj => by cases hj; omega)).grown G4.out (by have := NX.out.size; simp at this ⊢; omega) (fun j hj => by cases hj; exact Nat.le_refl _)⟩
      case measure => rw [RG.out.left_eq, HRG.out.left_eq]; exact hlt

theorem joinL_nil (m : List (Int × Int)) : joinL m [] = m := rfl

set_option maxRecDepth 100000 in
set_option maxHeartbeats 1600000 in
theorem join_nil (pa : Option Nat) (ma : List (Int × Int)) (w : World) (ha : VW w pa ma) :
    Calls Try.prog 54 #[.agg #[.map pa], .agg #[.map none]] w (NewView w ma) := by
  have HA := Lib.hid ha
  have la := ok_length ha.1
  have OA := Lib.hid ha.1
  clear ha
  go_enter Try.func54, Try.ntmps54
  go_wp2_with fail
  refine (copy_any pa ma _ (((HA.out.alloc _).alloc _).alloc _)).mono ?_
  rintro e w1 ⟨rfl, ho, hb⟩
  simp only [World.size_alloc] at ho hb
  have c1 : w1.cell? ⟨w.heap.size + 1, 0, none⟩ = some (.map none) := (hb.cell (p := ⟨w.heap.size + 1, 0, none⟩) (by simp)).trans (by simp [go_sem])
  have c0 : w1.cell? ⟨w.heap.size + 1 + 1, 0, none⟩ = some (.map none) := (hb.cell (p := ⟨w.heap.size + 1 + 1, 0, none⟩) (by simp)).trans (by simp [go_sem])
  have f0 : w1.frozen? ⟨w.heap.size + 1 + 1, 0, none⟩ = false := (hb.frozen (p := ⟨w.heap.size + 1 + 1, 0, none⟩) (by simp)).trans (by simp [go_sem])
  have hsz : w.heap.size + 1 + 1 < w1.heap.size := by have := ho.lt; omega
  have O := Lib.hid ho
  have B := Lib.hid hb
  have hrg := run_range_nilMap (P := Try.prog) w1 58 42 3 Try.underlying58
  have hnx : ∀ ty, (Instr.next (.pointer (some ⟨w1.heap.size, 0, none⟩)) false ty).run Try.prog (w1.alloc (.mapIter none 0 #[] 0)) = _ := fun ty => run_next_nilMap _ ty 0 0 #[]
  clear ho hb HA
  go_wp2
  refine wp_loop_rounds 1 ?_
  rw [rounds_succ]
  go_wp2
  have c9 : ((w1.setCell ⟨w.heap.size + 1 + 1, 0, none⟩ (.map (some (w.heap.size + 1 + 1 + 1)))).alloc (.mapIter none 0 #[] 0)).cell? ⟨w.heap.size + 1 + 1, 0, none⟩ = some (.map (some (w.heap.size + 1 + 1 + 1))) := by
    rw [((Below.refl _ (w1.setCell ⟨w.heap.size + 1 + 1, 0, none⟩ (.map (some (w.heap.size + 1 + 1 + 1))))).alloc (Nat.le_refl _) _).cell (by simpa using hsz)]
    exact World.cell?_setCell_same _ _ _ c0
  refine bodyPost_ret (v := .agg #[.map (some (w.heap.size + 1 + 1 + 1))]) (by simp [results, Try.results54, go_sem, c9]) rfl ?_
  have B0 := (b3 w (.cells #[.map pa] 60) (.cells #[.map none] 60) (.cells #[.map none] 60)).trans (B.out.mono (by omega))
  exact ⟨w.heap.size + 1 + 1 + 1, by omega, rfl, ⟨OA.out, .inr ⟨_, _, rfl, by omega, (O.out.setCell (by simp) _).alloc _⟩⟩, (B0.setCell (by simp; omega) _).alloc (by have := B0.size; simp; omega) _⟩

theorem join_any (pa pb : Option Nat) (ma mb : List (Int × Int)) (w : World) (ha : VW w pa ma) (hb : VW w pb mb) :
    Calls Try.prog 54 #[.agg #[.map pa], .agg #[.map pb]] w (NewView w (joinL ma mb)) := by
  obtain ⟨hob, ⟨rfl, rfl⟩ | ⟨bb, nb, rfl, _, h3⟩⟩ := hb
  · rw [joinL_nil]; exact join_nil pa ma w ha
  · exact join_some pa bb nb ma mb w ha hob h3
end Go.Proofs.Ytbaljoehgdhhhaa
