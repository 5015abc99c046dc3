/- The contract of View.Locs. -/
import Derived.Test.YtapaimoahiplcaaSame
import Derived.OpenShut
import Derived.WalkKit
import Derived.WalkSpells
import Derived.WalkLawsBesides
import Derived.Carry
import Derived.Lib.Hide
import Derived.Maps.Own
import Derived.Maps.OwnOps
import Derived.Maps.OwnSet
import Derived.Maps.RangeWalk
import Derived.Maps.Ext
import Derived.Deep.LoopGhost
namespace Go.Proofs.Ytapaimoahiplcaa
open Go.RowKit Go.Shelf Go.Maps
open Go.Sort

theorem sortsL (m : Nat) : AnyZI.SortsIn Try.prog Try.sortedL_ren Fence.wide m :=
  ⟨fun blk off cap ss W hH hblk hsz => callsIn_wide.2 (AnyM.slices_Sort_int Try.sortL blk off cap ss W hH hblk hsz),
   fun p cap W => callsIn_wide.2 (AnyM.slices_Sort_int_none Try.sortL p cap W)⟩

theorem keys_dat (m : List (Int × Int)) : intKeys (dat m) = m.map (·.1) := by
  induction m with
  | nil => rfl
  | cons p r ih =>
    show _ = p.1 :: r.map (·.1)
    rw [← ih]; rfl

theorem sort_keys {m : List (Int × Int)} (h : Rising m) {ss : List Int} (hp : ss.Perm (m.map (·.1))) : ss.mergeSort (fun x y => decide (x ≤ y)) = m.map (·.1) := by
  have h1 : (m.map (·.1)).Pairwise (fun x y => x ≤ y) := by
    rw [List.pairwise_map]
    exact h.imp (fun h => by omega)
  have h2 : (ss.mergeSort (fun x y => decide (x ≤ y))).Pairwise (fun x y => x ≤ y) := by
    have := List.pairwise_mergeSort (le := fun (x y : Int) => decide (x ≤ y)) (fun a b c h1 h2 => by simp at *; omega) (fun a b => by simp; omega) ss
    exact this.imp (fun h => by simpa using h)
  exact ((List.mergeSort_perm ss _).trans hp).eq_of_pairwise (fun a b _ _ h1 h2 => by omega) h2 h1

/-- The slice v is the call's own and holds the locations of m. -/
def IsLocs (w : World) (m : List (Int × Int)) (e : Ending) (w' : World) : Prop :=
  ∃ v, e = .returned v ∧ w'.ownsRow w.heap.size 23 1 v m.length (m.map fun p => .int .i64 p.1) ∧ (v = .slice none 0 0 ↔ m = []) ∧ Below w.heap.size w w'

set_option maxHeartbeats 1000000 in
theorem locs_some (b n : Nat) (m : List (Int × Int)) (w : World) (hm : Ok m) (hown : w.ownsMap Try.prog 23 (plainElem (H := Unit) Try.prog 3) b n (dat m)) :
    Calls Try.prog 23 #[.agg #[.map (some b)]] w (IsLocs w m) := by
  refine (callsIn_wide (n := 6)).1 ?_
  have hbl := hown.lt
  have hl := ok_length hm
  have hown1 := hown.alloc (.cells #[.map (some b)] 28)
  have hseq : SeqGives Fence.wide 2 Try.prog 33 #[.pointer (some ⟨w.heap.size + 1, 0, none⟩)] encZ (fun ss => ss.Perm (intKeys (dat m))) (Maps.size (dat m)) ((w.alloc (.cells #[.map (some b)] 28)).alloc (.cells #[.map (some b)] 26)) :=
    AnyZI.keys_gives (ρ := Try.keysL_ren) { Try.keysL with } Fence.wide _ trivial rfl (by omega) (w.heap.size + 1) b n (dat m) _ (by simp [go_sem]) (by simp) (hown1.alloc _)
  have cK : ∀ mb W, CallsIn Fence.wide 5 Try.prog 29 #[.map mb] W fun e w' => e = .returned (.func (.func 33) #[] #[.pointer (some ⟨W.heap.size, 0, none⟩)]) ∧ w' = W.alloc (.cells #[.map mb] 26) := fun mb W => AnyZI.keys_in Try.keysL Fence.wide 5 trivial rfl mb W
  have cS := AnyZI.sorted_in Try.sortedL Fence.wide 5 trivial trivial trivial trivial rfl (by omega) (sortsL _) (enters_of Try.func32 (by kernel_rfl) rfl) 33 #[.pointer (some ⟨w.heap.size + 1, 0, none⟩)] trivial (enters_of Try.func33 (by kernel_rfl) rfl) _ _ (by rw [dat_size]; unfold maxLen; omega) (by rw [dat_size]; omega) _ hseq
  change CallsIn _ _ Try.prog 28 _ _ _ at cS
  have hfK : Fence.wide.fn 29 := trivial
  have hfS : Fence.wide.fn 28 := trivial
  have OM := Lib.hid hm
  clear hown hown1 hseq hm
  refine callsIn_of_wp Try.func23 rfl trivial ?_ rfl
  simp only [Try.ntmps23, List.size_toArray, List.length_cons, List.length_nil, Nat.reduceAdd, Nat.reduceSub, Array.replicate_succ, Array.replicate_zero, List.push_toArray, List.append_toArray, List.nil_append, List.cons_append]
  gi_wp2_with (first
    | (gi_at_call 29; refine (cK _ _).mono ?_; rintro e w' ⟨rfl, rfl⟩)
    | (gi_at_call 28; refine cS.mono ?_; rintro e w' ⟨v, ss, rfl, hS, hrow, hnil, hb⟩))
  go_ret
  rw [keys_dat] at hS
  have hlen : ss.length = m.length := by rw [hS.length_eq]; simp
  have hsort := sort_keys OM.out.1 hS
  rw [hsort, hlen, List.map_map] at hrow
  refine ⟨v, rfl, ownsRow_base_a hrow (by simp; omega), hnil.trans ⟨fun e => by subst e; cases m with | nil => rfl | cons _ _ => simp at hlen, fun e => by subst e; cases ss with | nil => rfl | cons _ _ => simp at hlen⟩, (b2 w _ _).trans (hb.mono (by simp; omega))⟩

set_option maxHeartbeats 1000000 in
theorem locs_nil (w : World) : Calls Try.prog 23 #[.agg #[.map none]] w (IsLocs w []) := by
  refine (callsIn_wide (n := 6)).1 ?_
  have hseq : SeqGives Fence.wide 2 Try.prog 33 #[.pointer (some ⟨w.heap.size + 1, 0, none⟩)] encZ (fun ss : List Int => ss = []) 0 ((w.alloc (.cells #[.map none] 28)).alloc (.cells #[.map none] 26)) :=
    AnyZI.keys_gives_nil (ρ := Try.keysL_ren) { Try.keysL with } Fence.wide _ trivial rfl (w.heap.size + 1) _ (by simp [go_sem]) (by simp)
  have cK : ∀ mb W, CallsIn Fence.wide 5 Try.prog 29 #[.map mb] W fun e w' => e = .returned (.func (.func 33) #[] #[.pointer (some ⟨W.heap.size, 0, none⟩)]) ∧ w' = W.alloc (.cells #[.map mb] 26) := fun mb W => AnyZI.keys_in Try.keysL Fence.wide 5 trivial rfl mb W
  have cS := AnyZI.sorted_in Try.sortedL Fence.wide 5 trivial trivial trivial trivial rfl (by omega) (sortsL _) (enters_of Try.func32 (by kernel_rfl) rfl) 33 #[.pointer (some ⟨w.heap.size + 1, 0, none⟩)] trivial (enters_of Try.func33 (by kernel_rfl) rfl) _ 0 (Nat.zero_le _) (by omega) _ hseq
  change CallsIn _ _ Try.prog 28 _ _ _ at cS
  have hfK : Fence.wide.fn 29 := trivial
  have hfS : Fence.wide.fn 28 := trivial
  clear hseq
  refine callsIn_of_wp Try.func23 rfl trivial ?_ rfl
  simp only [Try.ntmps23, List.size_toArray, List.length_cons, List.length_nil, Nat.reduceAdd, Nat.reduceSub, Array.replicate_succ, Array.replicate_zero, List.push_toArray, List.append_toArray, List.nil_append, List.cons_append]
  gi_wp2_with (first
    | (gi_at_call 29; refine (cK _ _).mono ?_; rintro e w' ⟨rfl, rfl⟩)
    | (gi_at_call 28; refine cS.mono ?_; rintro e w' ⟨v, ss, rfl, rfl, hrow, hnil, hb⟩; obtain rfl : v = .slice none 0 0 := hnil.2 rfl))
  go_ret
  have hrow2 : w'.ownsRow ((w.alloc (.cells #[.map none] 28)).alloc (.cells #[.map none] 26)).heap.size 23 1 (.slice none 0 0) 0 [] := by
    have : ([] : List Int).mergeSort (fun x y => decide (x ≤ y)) = [] := by simp
    rw [this] at hrow
    exact hrow
  exact ⟨.slice none 0 0, rfl, ownsRow_base_a hrow2 (by simp; omega), by simp, (b2 w _ _).trans (hb.mono (by simp; omega))⟩

theorem locs_any (p : Option Nat) (m : List (Int × Int)) (w : World) (hv : VW w p m) : Calls Try.prog 23 #[.agg #[.map p]] w (IsLocs w m) := by
  obtain ⟨ho, ⟨rfl, rfl⟩ | ⟨b, n, rfl, _, h3⟩⟩ := hv
  · exact locs_nil w
  · exact locs_some b n m w ho h3
end Go.Proofs.Ytapaimoahiplcaa
