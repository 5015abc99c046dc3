/- The reference's Below. -/
import Derived.Test.YtapaimoahiplcaaRefWith
import Derived.OpenShut
import Derived.Deep.RegionHeld3
import Derived.Deep.QuietTactic
import Derived.BigQuiet
import Derived.WalkKit
import Derived.WalkSpells
import Derived.WalkLawsBesides
import Derived.Carry
import Derived.Lib.Hide
import Derived.Maps.Own
import Derived.Maps.OwnOps
import Derived.Maps.OwnSet
import Derived.Maps.RangeWalk
import Derived.Maps.Ext
import Derived.Deep.LoopGhost
namespace Go.Proofs.Ytapaimoahiplcaa
open Go.RowKit Go.Shelf Go.Maps

theorem IsP.drewN {w : World} {v : Value} {m : List (Int × Int)} (h : IsP w v m) (n : Nat) : IsP (w.drewN n) v m := h.below (below_drewN (Below.refl _ _) n)

/-- The reference's Below, up to place k. -/
def goodTo (a b : List (Int × Int)) (k : Nat) : Prop := ∀ j, j < k → (a.getD j (0, 0)).2 ≤ atL b (a.getD j (0, 0)).1

theorem below_yes {a b : List (Int × Int)} (h : goodTo a b a.length) : belowL a b = true := by
  unfold belowL
  rw [List.all_eq_true]
  intro p hp
  obtain ⟨j, hj, e⟩ := List.mem_iff_getElem.1 hp
  have := h j hj
  rw [List.getD, List.getElem?_eq_getElem hj, e] at this
  simpa using this
theorem below_no {a b : List (Int × Int)} {k : Nat} (hk : k < a.length) (h : atL b (a.getD k (0, 0)).1 < (a.getD k (0, 0)).2) : belowL a b = false := by
  unfold belowL
  rw [List.all_eq_false]
  refine ⟨a[k], List.getElem_mem hk, ?_⟩
  rw [List.getD, List.getElem?_eq_getElem hk] at h
  simp at h ⊢
  omega

set_option maxRecDepth 100000 in
set_option maxHeartbeats 1600000 in
theorem rbelow_some (g cap : Nat) (vb : Value) (a b : List (Int × Int)) (w : World) (ha : a.length ≤ 5000) (hb : b.length ≤ 5000) (hg : g < w.heap.size) (hP : IsP w vb b)
    (hc : ∀ i, i < a.length → w.cell? ⟨g, i * 2, none⟩ = some (.int .i64 (a.getD i (0, 0)).1) ∧ w.cell? ⟨g, i * 2 + 1, none⟩ = some (.int .i64 (a.getD i (0, 0)).2)) :
    Calls Try.prog 19 #[.slice (some ⟨g, 0, none⟩) a.length cap, vb] w fun e w' => e = .returned (.bool (belowL a b)) ∧ Below w.heap.size w w' := by
  have HC := Lib.hid hc
  have HP := Lib.hid hP
  clear hc hP
  go_enter Try.func19, Try.ntmps19
  go_wp2
  go_loopw [5] (fun i wr => ∃ (k : Nat), k ≤ a.length ∧ i = .int .i64 k ∧ goodTo a b k ∧ Below w.heap.size w wr) (fun i _ => a.length - (intOf i).toNat)
  case atStart => exact ⟨0, by omega, rfl, fun j hj => by omega, Below.refl _ _⟩
  case round =>
    obtain ⟨k, hk, rfl, hn, hnx⟩ := hrel
    have NX := Lib.hid hnx
    clear hnx
    have HN := Lib.hid hn
    clear hn
    by_cases hlt : k < a.length
    · obtain ⟨c1, c2⟩ : wr.cell? ⟨g, k * 2, none⟩ = some (.int .i64 (a.getD k (0, 0)).1) ∧ wr.cell? ⟨g, k * 2 + 1, none⟩ = some (.int .i64 (a.getD k (0, 0)).2) := ⟨(NX.out.cell hg).trans (HC.out k hlt).1, (NX.out.cell hg).trans (HC.out k hlt).2⟩
      have P1 := Lib.hid (HP.out.below NX.out)
      have hlo : (0 : Int) ≤ (k : Int) := by omega
      have hhi : (k : Int) < (a.length : Int) := by omega
      obtain ⟨x, hx⟩ : ∃ x, x = (a.getD k (0, 0)).1 := ⟨_, rfl⟩
      obtain ⟨y, hy⟩ : ∃ y, y = (a.getD k (0, 0)).2 := ⟨_, rfl⟩
      rw [← hx] at c1
      rw [← hy] at c2
      have HX := Lib.hid hx
      have HY := Lib.hid hy
      clear hx hy
      go_wp2_with fail
      go_quiet ((go_at_call 15; exact Calls.quiet_of_same ((rat_any vb b x _ hb (P1.out.drewN _)).mono fun _ _ h => ⟨h.1, h.2.symm⟩)))
      by_cases hle : y ≤ atL b x
      · go_wp2
        go_roundw
        case rel => exact ⟨k + 1, by omega, by go_num, fun j hj => by
          by_cases e : j = k
          · subst e; rw [← HX.out, ← HY.out]; exact hle
          · exact HN.out j (by omega), below_drewN NX.out _⟩
        case measure => simp [intOf]; omega
      · have hgt : atL b x < y := by omega
        clear hle
        go_wp2
        go_ret
        exact ⟨ret_bool (below_no hlt (by rw [← HX.out, ← HY.out]; exact hgt)).symm, below_drewN NX.out _⟩
    · go_wp2
      go_ret
      exact ⟨ret_bool (below_yes (fun j hj => HN.out j (by omega))).symm, NX.out⟩

theorem rbelow_nil (vb : Value) (w : World) : Calls Try.prog 19 #[.slice none 0 0, vb] w fun e w' => e = .returned (.bool true) ∧ Below w.heap.size w w' := by
  go_enter Try.func19, Try.ntmps19
  go_wp2
  refine wp_loop_rounds 1 ?_
  rw [rounds_succ]
  go_wp2
  go_ret
  exact ⟨rfl, Below.refl _ _⟩

theorem rbelow_any (va vb : Value) (a b : List (Int × Int)) (w : World) (oa : Ok a) (ob : Ok b) (ha : IsP w va a) (hb : IsP w vb b) : Calls Try.prog 19 #[va, vb] w fun e w' => e = .returned (.bool (belowL a b)) ∧ Below w.heap.size w w' := by
  have la := ok_length oa
  have lb := ok_length ob
  obtain ⟨rfl, rfl⟩ | ⟨g, cap, rfl, hg, hc⟩ := ha.open
  · exact rbelow_nil vb w
  · exact rbelow_some g cap vb a b w (by omega) (by omega) hg hb hc
end Go.Proofs.Ytapaimoahiplcaa
