/- Contracts of package view: a look-up, the copy of a map, With. -/
import Derived.Test.YtbaljoehgdhhhaaProg
import Derived.Test.YtbaljoehgdhhhaaViewPlain
import Derived.Test.YtbaljoehgdhhhaaViewShelf
import Derived.WalkKit
import Derived.WalkSpells
import Derived.WalkLawsBesides
import Derived.Carry
import Derived.Lib.Hide
import Derived.Maps.Own
import Derived.Maps.OwnOps
import Derived.Maps.OwnSet
import Derived.Maps.RangeWalk
import Derived.Maps.Ext
import Derived.Deep.LoopGhost
namespace Go.Proofs.Ytbaljoehgdhhhaa
open Go.RowKit Go.Shelf Go.Maps

theorem law : Keyed Try.prog 42 := int_keyed Try.underlying42
theorem zeroE (w : World) : (zeroValue 3).run Try.prog w = .ok (.int .i64 0) w := by kernel_rfl
/-- The map p holds just the pairs of m (nil: none). -/
def VW (w : World) (p : Option Nat) (m : List (Int × Int)) : Prop :=
  Ok m ∧ ((p = none ∧ m = []) ∨ ∃ b n, p = some b ∧ n ≤ 9000 ∧ w.ownsMap Try.prog 42 (plainElem (H := Unit) Try.prog 3) b n (dat m))

theorem owns_below {w w1 : World} {b n : Nat} {D : DataW Unit} (h : w.ownsMap Try.prog 42 (plainElem (H := Unit) Try.prog 3) b n D) (hb : Below w.heap.size w w1) : w1.ownsMap Try.prog 42 (plainElem (H := Unit) Try.prog 3) b n D := by
  have hlt := h.lt
  obtain ⟨es, clock, hk, F, hs, hD⟩ := h
  exact ⟨es, clock, (hb.block b hlt).trans hk, F, hs, hD⟩

theorem VW.below {w w1 : World} {p : Option Nat} {m : List (Int × Int)} (h : VW w p m) (hb : Below w.heap.size w w1) : VW w1 p m := by
  obtain ⟨ho, h | ⟨b, n, h1, h2, h3⟩⟩ := h
  · exact ⟨ho, .inl h⟩
  · exact ⟨ho, .inr ⟨b, n, h1, h2, owns_below h3 hb⟩⟩
theorem VW.alloc {w : World} {p : Option Nat} {m : List (Int × Int)} (h : VW w p m) (o : Obj) : VW (w.alloc o) p m := h.below ((Below.refl _ _).alloc (Nat.le_refl _) o)
theorem VW.nil (w : World) : VW w none [] := ⟨ok_nil, .inl ⟨rfl, rfl⟩⟩

theorem key_ok (l : Int) (h0 : -9223372036854775808 ≤ l) (h1 : l < 9223372036854775808) : keyOf Try.prog 42 (.int .i64 l) = some (.int .i64 l) :=
  keyOf_int_mk Try.underlying42 (WalkArith.wf_i64 (by omega))

/-- What a look-up in such a map gives. -/
theorem VW.look {w : World} {p : Option Nat} {m : List (Int × Int)} (h : VW w p m) (l : Int) (h0 : -9223372036854775808 ≤ l) (h1 : l < 9223372036854775808) :
    (Instr.lookup 58 (.map p) (.int .i64 l) false).run Try.prog w = .ok (.int .i64 (atL m l)) w := by
  obtain ⟨ho, ⟨rfl, rfl⟩ | ⟨b, n, rfl, h2, h3⟩⟩ := h
  · exact look_nil false law Try.underlying58 (zeroE w) (key_ok l h0 h1)
  · obtain ⟨c, hrun, hat, _⟩ := h3.lookup_int law Try.underlying58 Try.underlying3 (zeroE w) (key_ok l h0 h1)
    rw [dat_at] at hat
    cases hat
    exact hrun

theorem run_mkmap (n : Int) (w : World) : (Instr.makeMap 58 (some (.int .i64 n))).run Try.prog w = .ok (.map (some w.heap.size)) (w.alloc (.map #[] 0)) := by
  simp [Instr.makeMap, run_underlying Try.underlying58]
  rfl

theorem VW.len {w : World} {p : Option Nat} {m : List (Int × Int)} (h : VW w p m) (ty : TypeId) : (Builtin.len_ #[58] ty #[.map p]).run Try.prog w = .ok (.int .i64 m.length) w := by
  obtain ⟨ho, ⟨rfl, rfl⟩ | ⟨b, n, rfl, h2, h3⟩⟩ := h
  · simp [Builtin.len_, run_underlying Try.underlying58, goInt]
  · rw [h3.len Try.underlying58 ty, dat_size]

theorem VW.src {w : World} {p : Option Nat} {m : List (Int × Int)} (h : VW w p m) : ∃ D, SrcOf Try.prog 42 (plainElem (H := Unit) Try.prog 3) w p D ∧ Maps.size D = m.length ∧ Lib.mergeD (.map []) D = dat m := by
  obtain ⟨ho, ⟨rfl, rfl⟩ | ⟨b, n, rfl, h2, h3⟩⟩ := h
  · exact ⟨.nil, .inl ⟨rfl, rfl⟩, rfl, rfl⟩
  · exact ⟨dat m, .inr ⟨b, n, rfl, h3⟩, dat_size m, merge_dat ho.1⟩

set_option maxRecDepth 100000 in
set_option maxHeartbeats 400000 in
theorem copy_any (p : Option Nat) (m : List (Int × Int)) (w : World) (hv : VW w p m) :
    Calls Try.prog 56 #[.map p] w fun e w' => e = .returned (.map (some w.heap.size)) ∧ w'.ownsMap Try.prog 42 (plainElem (H := Unit) Try.prog 3) w.heap.size m.length (dat m) ∧ Below w.heap.size w w' := by
  have hlen := hv.len 3
  have hl := ok_length hv.1
  have hmm := fun n w => run_mkmap n w
  obtain ⟨D, hs, hz, hmg⟩ := hv.src
  have hs0 := hs.kept (World.grownBy_alloc w (.map #[] 0) none) (by cases p <;> simp)
  have ne : p ≠ some w.heap.size := fun e => absurd (hs.lt _ e) (Nat.lt_irrefl _)
  have c1 : Calls Try.prog 59 #[.map (some w.heap.size), .map p] (w.alloc (.map #[] 0)) (fun e w' => e = .returned (.tuple #[]) ∧ w'.ownsMap Try.prog 42 (plainElem (H := Unit) Try.prog 3) w.heap.size (0 + Maps.size D) (Lib.mergeD (.map []) D) ∧ (w.alloc (.map #[] 0)).grownBy w' (some w.heap.size)) :=
    AnyX.maps_Copy_opt Try.copyL law (plainElem (H := Unit) Try.prog 3) w.heap.size 0 p (.map []) D _ (World.ownsMap_made w Try.prog 42 _) hs0 ne (by rw [hz]; unfold maxLen; omega)
  rw [hmg, hz, Nat.zero_add] at c1
  clear hs hs0 hmg hz hv
  have C := Lib.hid c1
  clear c1
  generalize dat m = DM at *
  generalize m.length = ML at *
  go_enter Try.func56, Try.ntmps56
  go_wp2_with fail
  refine C.out.mono ?_
  rintro e w1 ⟨rfl, ho, hg⟩
  have O := Lib.hid ho
  have G := Lib.hid hg
  clear ho hg C
  go_wp2
  go_ret
  exact ⟨rfl, O.out, ((Below.refl _ w).alloc (Nat.le_refl _) _).grown G.out (by simp) (fun j hj => by cases hj; exact Nat.le_refl _)⟩

set_option maxRecDepth 100000 in
theorem valid_any (l : Int) (w : World) : Calls Try.prog 57 #[.int .i64 l] w fun e w' => e = .returned (.bool (decide (0 ≤ l ∧ l < 4096))) ∧ w = w' := by
  by_cases h0 : 0 ≤ l
  · by_cases h1 : l < 4096
    · have e : decide (0 ≤ l ∧ l < 4096) = true := by simp; omega
      rw [e]
      go_enter Try.func57, Try.ntmps57
      go_wp2
      go_ret
      exact ⟨by simp, rfl⟩
    · have e : decide (0 ≤ l ∧ l < 4096) = false := by simp; omega
      rw [e]
      go_enter Try.func57, Try.ntmps57
      go_wp2
      go_ret
      exact ⟨by simp, rfl⟩
  · have e : decide (0 ≤ l ∧ l < 4096) = false := by simp; omega
    rw [e]
    go_enter Try.func57, Try.ntmps57
    go_wp2
    go_ret
    exact ⟨by simp, rfl⟩

set_option maxRecDepth 100000 in
set_option maxHeartbeats 400000 in
theorem raise_any (b k : Nat) (m : List (Int × Int)) (l n : Int) (w : World) (hm : Ok m) (hk : k ≤ 100000) (h0 : -9223372036854775808 ≤ l) (h1 : l < 9223372036854775808) (n0 : -9223372036854775808 ≤ n) (n1 : n < 9223372036854775808)
    (ho : w.ownsMap Try.prog 42 (plainElem (H := Unit) Try.prog 3) b k (dat m)) :
    Calls Try.prog 58 #[.map (some b), .int .i64 l, .int .i64 n] w fun e w' => e = .returned (.tuple #[]) ∧ w'.ownsMap Try.prog 42 (plainElem (H := Unit) Try.prog 3) b (k + 1) (dat (if n ≤ atL m l then m else insL m l n)) ∧ w.grownBy w' (some b) := by
  obtain ⟨c, hrun, hat, _⟩ := ho.lookup_int law Try.underlying58 Try.underlying3 (zeroE w) (key_ok l h0 h1)
  rw [dat_at] at hat
  cases hat
  by_cases hc : n ≤ atL m l
  · rw [if_pos hc]
    have O := Lib.hid ho
    clear ho
    go_enter Try.func58, Try.ntmps58
    go_wp2
    go_end0
    exact ⟨rfl, O.out.mono (Nat.le_succ _), World.grownBy.refl _ _⟩
  · rw [if_neg hc, ← dat_put hm.1]
    have hlt : atL m l < n := by omega
    clear hc
    go_enter Try.func58, Try.ntmps58
    go_wp2_with (first | (at_mapUpdate; refine wpList_mapUpdate_own _ rfl _ _ _ 58 rfl 42 3 law Try.underlying58 _ b k _ rfl ho (by unfold maxLen; omega) _ _ _ rfl rfl (key_ok l h0 h1) _ [] (plainElem_int Try.underlying3 (WalkArith.wf_i64 (by omega))) ?_))
    intro w1 hown1 hg1
    go_wp2
    go_end0
    exact ⟨rfl, hown1, hg1⟩

theorem with_raise (m : List (Int × Int)) (l n : Int) (h : 0 ≤ l ∧ l < 4096) : (if n ≤ atL m l then m else insL m l n) = withL m l n := by
  unfold withL
  by_cases hc : n ≤ atL m l
  · rw [if_pos hc, if_pos (by omega)]
  · rw [if_neg hc, if_neg (by omega)]
theorem with_out (m : List (Int × Int)) (l n : Int) (h : ¬ (0 ≤ l ∧ l < 4096)) : m = withL m l n := by
  unfold withL; rw [if_pos (by omega)]

theorem b2 (w : World) (a b : Obj) : Below w.heap.size w ((w.alloc a).alloc b) :=
  ((Below.refl _ _).alloc (Nat.le_refl _) _).alloc (by simp) _

/-- A new view: its map lies in a block of the call's own. -/
def NewView (w : World) (m : List (Int × Int)) (e : Ending) (w' : World) : Prop :=
  ∃ b, w.heap.size ≤ b ∧ e = .returned (.agg #[.map (some b)]) ∧ VW w' (some b) m ∧ Below w.heap.size w w'

set_option maxRecDepth 100000 in
set_option maxHeartbeats 800000 in
theorem with_any (p : Option Nat) (m : List (Int × Int)) (l n : Int) (w : World) (h0 : -9223372036854775808 ≤ l) (h1 : l < 9223372036854775808) (n0 : -9223372036854775808 ≤ n) (n1 : n < 9223372036854775808) (hv : VW w p m) :
    Calls Try.prog 50 #[.agg #[.map p], .int .i64 l, .int .i64 n] w (NewView w (withL m l n)) := by
  have HV := Lib.hid hv
  have hl := ok_length hv.1
  have hm := hv.1
  have OK := Lib.hid (ok_withL (l := l) hv.1 n1)
  clear hv
  by_cases hval : 0 ≤ l ∧ l < 4096
  · have hd : decide (0 ≤ l ∧ l < 4096) = true := by simpa using hval
    have HW := Lib.hid (with_raise m l n hval)
    clear hval
    go_enter Try.func50, Try.ntmps50
    go_wp2_with fail
    refine (copy_any p m _ ((HV.out.alloc _).alloc _)).mono ?_
    rintro e w1 ⟨rfl, ho, hb⟩
    simp only [World.size_alloc] at ho hb
    have O := Lib.hid ho
    have B := Lib.hid hb
    clear ho hb
    go_wp2_with fail
    refine (valid_any l _).mono ?_
    rintro e w' ⟨rfl, rfl⟩
    rw [hd]
    go_wp2_with fail
    refine (raise_any _ _ m l n _ hm (by omega) h0 h1 n0 n1 O.out).mono ?_
    rintro e w2 ⟨rfl, ho2, hg2⟩
    rw [HW.out] at ho2
    have O2 := Lib.hid ho2
    have BB := B.out.grown hg2 (by have := B.out.size; simpa using this) (fun k hk => by cases hk; exact Nat.le_refl _)
    clear ho2 hg2
    have c0 : w2.cell? ⟨w.heap.size + 1, 0, none⟩ = some (.map none) := (BB.cell (p := ⟨w.heap.size + 1, 0, none⟩) (by simp)).trans (by simp [go_sem])
    have f0 : w2.frozen? ⟨w.heap.size + 1, 0, none⟩ = false := (BB.frozen (p := ⟨w.heap.size + 1, 0, none⟩) (by simp)).trans (by simp [go_sem])
    have B0 := Lib.hid ((b2 w _ _).trans (BB.mono (Nat.le_trans (Nat.le_succ _) (Nat.le_succ _))))
    clear BB O B HV
    go_wp2
    refine bodyPost_ret (v := .agg #[.map (some (w.heap.size + 1 + 1))]) (by simp [results, Try.results50, go_sem, c0]) rfl ?_
    exact ⟨w.heap.size + 1 + 1, by omega, rfl, ⟨OK.out, .inr ⟨_, _, rfl, by have := ok_length OK.out; omega, O2.out.setCell (by simp) _⟩⟩, B0.out.setCell (by simp) _⟩
  · have hd : decide (0 ≤ l ∧ l < 4096) = false := by simpa using hval
    have HW := Lib.hid (with_out m l n hval)
    clear hval
    go_enter Try.func50, Try.ntmps50
    go_wp2_with fail
    refine (copy_any p m _ ((HV.out.alloc _).alloc _)).mono ?_
    rintro e w1 ⟨rfl, ho, hb⟩
    simp only [World.size_alloc] at ho hb
    rw [HW.out] at ho
    have O2 := Lib.hid ho
    have O := True.intro
    have B := True.intro
    have BB := hb
    clear ho hb
    go_wp2_with fail
    refine (valid_any l _).mono ?_
    rintro e w' ⟨rfl, rfl⟩
    rw [hd]
    have c0 : w1.cell? ⟨w.heap.size + 1, 0, none⟩ = some (.map none) := (BB.cell (p := ⟨w.heap.size + 1, 0, none⟩) (by simp)).trans (by simp [go_sem])
    have f0 : w1.frozen? ⟨w.heap.size + 1, 0, none⟩ = false := (BB.frozen (p := ⟨w.heap.size + 1, 0, none⟩) (by simp)).trans (by simp [go_sem])
    have B0 := Lib.hid ((b2 w _ _).trans (BB.mono (Nat.le_trans (Nat.le_succ _) (Nat.le_succ _))))
    clear BB O B HV
    go_wp2
    refine bodyPost_ret (v := .agg #[.map (some (w.heap.size + 1 + 1))]) (by simp [results, Try.results50, go_sem, c0]) rfl ?_
    exact ⟨w.heap.size + 1 + 1, by omega, rfl, ⟨OK.out, .inr ⟨_, _, rfl, by have := ok_length OK.out; omega, O2.out.setCell (by simp) _⟩⟩, B0.out.setCell (by simp) _⟩
end Go.Proofs.Ytbaljoehgdhhhaa
