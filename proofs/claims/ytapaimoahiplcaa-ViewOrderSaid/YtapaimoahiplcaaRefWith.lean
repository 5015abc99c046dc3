/- The contract of the reference's With. -/
import Derived.Test.YtapaimoahiplcaaRef
import Derived.OpenShut
import Derived.Deep.AppendLies
import Derived.Deep.Onto
import Derived.WalkKit
import Derived.WalkSpells
import Derived.WalkLawsBesides
import Derived.Carry
import Derived.Lib.Hide
import Derived.Maps.Own
import Derived.Maps.OwnOps
import Derived.Maps.OwnSet
import Derived.Maps.RangeWalk
import Derived.Maps.Ext
import Derived.Deep.LoopGhost
namespace Go.Proofs.Ytapaimoahiplcaa
open Go.RowKit Go.Shelf Go.Maps

theorem info52 : (Try.prog.info? 52).map (fun i => (i.zero, i.size, i.bytes)) = some (some (.agg #[.int .i64 0, .int .i64 0]), 2, 16) := by kernel_rfl

/-- A new pair lies in a block of its own. -/
theorem pair_new (w : World) (x y : Int) : ∀ j u, ([.int .i64 x, .int .i64 y] : List Value)[j]? = some u → (w.alloc (.cells #[.int .i64 x, .int .i64 y] 52)).cell? ((⟨w.heap.size, 0, none⟩ : Addr).add j) = some u := by
  intro j u h
  match j, h with
  | 0, h => simp at h; subst h; simp [go_sem, Addr.add]
  | 1, h => simp at h; subst h; simp [go_sem, Addr.add]

theorem pair_one (x y : Int) : ∀ u ∈ ([.int .i64 x, .int .i64 y] : List Value), u.oneCell' = true := by
  intro u hu
  simp at hu
  rcases hu with rfl | rfl <;> rfl

theorem own_snoc {w : World} {B : Nat} {v : Value} {out : List (Int × Int)} {x y : Int} (h : w.ownsRow B 52 2 v (out.length + 1) (flat out ++ [.int .i64 x, .int .i64 y])) : w.ownsRow B 52 2 v (out ++ [(x, y)]).length (flat (out ++ [(x, y)])) := by
  rw [flat_append]
  simpa [flat] using h

theorem below_app {w wr w1 : World} {vo : Value} {nn : Nat} {xs : List Value} {o : Obj} (hnx : Below w.heap.size w wr) (hown : wr.ownsRow w.heap.size 52 2 vo nn xs) (hg : (wr.alloc o).grownBy w1 vo.ownBlock) : Below w.heap.size w w1 :=
  (hnx.alloc hnx.size _).grown hg (by have := hnx.size; simp; omega) (fun j hj => (hown.lt j hj).1)

/-- What holds at the head of the loop of the reference's With. -/
def HeadR (w : World) (l n : Int) (m : List (Int × Int)) (vo pv iv : Value) (wr : World) : Prop :=
  ∃ k : Nat, k ≤ m.length ∧ iv = .int .i64 k ∧ pv = .bool (runR l n m k).2 ∧ wr.ownsRow w.heap.size 52 2 vo (runR l n m k).1.length (flat (runR l n m k).1) ∧ Below w.heap.size w wr

set_option maxRecDepth 100000 in
set_option maxHeartbeats 1600000 in
theorem rwith_some (g cap : Nat) (m : List (Int × Int)) (l n : Int) (w : World) (hm : Ok m) (hg : g < w.heap.size) (h0 : 0 ≤ l) (h1 : l < 4096) (hn : atL m l < n)
    (hP : IsP w (.slice (some ⟨g, 0, none⟩) m.length cap) m)
    (hc : ∀ i, i < m.length → w.cell? ⟨g, i * 2, none⟩ = some (.int .i64 (m.getD i (0, 0)).1) ∧ w.cell? ⟨g, i * 2 + 1, none⟩ = some (.int .i64 (m.getD i (0, 0)).2)) :
    Calls Try.prog 17 #[.slice (some ⟨g, 0, none⟩) m.length cap, .int .i64 l, .int .i64 n] w fun e w' => ∃ v, e = .returned v ∧ w'.ownsRow w.heap.size 52 2 v (insL m l n).length (flat (insL m l n)) ∧ Below w.heap.size w w' := by
  obtain ⟨i0, hi, hz0, hz1, hz2⟩ := info_parts info52
  have hl := ok_length hm
  have HC := Lib.hid hc
  have HM := Lib.hid hm
  have HP := Lib.hid hP
  clear hc hm hP
  go_enter Try.func17, Try.ntmps17
  go_wp2_with fail
  refine (rat_any _ m l _ (by omega) HP.out).mono ?_
  rintro e w' ⟨rfl, rfl⟩
  go_wp2
  go_loopw [7, 8, 9] (fun vo pv iv wr => HeadR w l n m vo pv iv wr) (fun _ _ iv _ => m.length - (intOf iv).toNat)
  case atStart => exact ⟨0, by omega, rfl, rfl, World.ownsRow_nil _ _ _ _, Below.refl _ _⟩
  case round =>
    obtain ⟨k, hk, rfl, rfl, hown, hnx⟩ := hrel
    have hrl := runR_len l n m k
    have hws := hnx.size
    by_cases hlt : k < m.length
    · have hcell : wr.cell? ⟨g, k * 2, none⟩ = some (.int .i64 (m.getD k (0, 0)).1) ∧ wr.cell? ⟨g, k * 2 + 1, none⟩ = some (.int .i64 (m.getD k (0, 0)).2) :=
        ⟨(hnx.cell hg).trans (HC.out k hlt).1, (hnx.cell hg).trans (HC.out k hlt).2⟩
      obtain ⟨c1, c2⟩ := hcell
      have hstep := runR_succ l n m k hlt
      have hput := runR_put l n HM.out.1 k (by omega)
      obtain ⟨x, hx⟩ : ∃ x, x = (m.getD k (0, 0)).1 := ⟨_, rfl⟩
      obtain ⟨y, hy⟩ : ∃ y, y = (m.getD k (0, 0)).2 := ⟨_, rfl⟩
      have hxy : m.getD k (0, 0) = (x, y) := by rw [hx, hy]
      rw [hxy] at hstep
      rw [← hx] at c1
      rw [← hy] at c2
      have hput2 : (runR l n m k).2 = true → l < x := fun h => by rw [hx]; exact hput h k (Nat.le_refl _) hlt
      clear hput hxy hx hy
      rw [show (runR l n m k) = ((runR l n m k).1, (runR l n m k).2) from rfl] at hstep
      generalize (runR l n m k).1 = out at *
      generalize (runR l n m k).2 = put at *
      have HS := Lib.hid hstep
      clear hstep
      by_cases hA : x < l
      · have hne : (x != l) = true := by rw [bne_iff_ne]; omega
        have hs2 : runR l n m (k + 1) = (out ++ [(x, y)], put) := by rw [HS.out]; unfold stepR; rw [if_pos hA]
        have HS2 := Lib.hid hs2
        clear HS hs2 hput2
        go_wp2_with (first
          | (at_builtin; refine wpList_append_own _ rfl (.tmp 54) (.tmp 59) 29 rfl w.heap.size 52 i0 (.agg #[.int .i64 0, .int .i64 0]) 2 16 Try.underlying29 hi hz0 hz1 hz2 rfl (by decide) _ _ _ rfl (hown.alloc _) ⟨wr.heap.size, 0, none⟩ 1 1 [.int .i64 x, .int .i64 y] rfl rfl (pair_new _ _ _) (pair_one _ _) (by unfold maxLen; omega) (by omega) (by simp; omega) ?_; intro v' w1 hown' hgrow _; have B1 := Lib.hid (below_app hnx hown hgrow); have O1 := Lib.hid (own_snoc hown'); clear hown' hgrow)
          | go_in)
        go_roundw
        case rel => exact ⟨k + 1, by omega, by go_num, by rw [HS2.out], by rw [HS2.out]; exact O1.out, B1.out⟩
        case measure => simp [intOf]; omega
      · cases put with
        | true =>
          have hlx : l < x := hput2 rfl
          have hne : (x != l) = true := by rw [bne_iff_ne]; omega
          have hs2 : runR l n m (k + 1) = (out ++ [(x, y)], true) := by rw [HS.out]; unfold stepR; rw [if_neg hA]; rfl
          have HS2 := Lib.hid hs2
          clear HS hs2 hput2
          go_wp2_with (first
            | (at_builtin; refine wpList_append_own _ rfl (.tmp 54) (.tmp 59) 29 rfl w.heap.size 52 i0 (.agg #[.int .i64 0, .int .i64 0]) 2 16 Try.underlying29 hi hz0 hz1 hz2 rfl (by decide) _ _ _ rfl (hown.alloc _) ⟨wr.heap.size, 0, none⟩ 1 1 [.int .i64 x, .int .i64 y] rfl rfl (pair_new _ _ _) (pair_one _ _) (by unfold maxLen; omega) (by omega) (by simp; omega) ?_; intro v' w1 hown' hgrow _; have B1 := Lib.hid (below_app hnx hown hgrow); have O1 := Lib.hid (own_snoc hown'); clear hown' hgrow)
            | go_in)
          go_roundw
          case rel => exact ⟨k + 1, by omega, by go_num, by rw [HS2.out], by rw [HS2.out]; exact O1.out, B1.out⟩
          case measure => simp [intOf]; omega
        | false =>
          clear hput2
          by_cases he : x = l
          · have hne : (x != l) = false := by rw [he]; simp
            have hs2 : runR l n m (k + 1) = (out ++ [(l, n)], true) := by rw [HS.out]; unfold stepR; simp [he]
            have HS2 := Lib.hid hs2
            have HE := Lib.hid he
            have hge : l ≤ x := by omega
            clear HS hs2 he
            go_wp2_with (first
              | (at_builtin; refine wpList_append_own _ rfl (.tmp 41) (.tmp 45) 29 rfl w.heap.size 52 i0 (.agg #[.int .i64 0, .int .i64 0]) 2 16 Try.underlying29 hi hz0 hz1 hz2 rfl (by decide) _ _ _ rfl (hown.alloc _) ⟨wr.heap.size, 0, none⟩ 1 1 [.int .i64 l, .int .i64 n] rfl rfl (pair_new _ _ _) (pair_one _ _) (by unfold maxLen; omega) (by omega) (by simp; omega) ?_; intro v1 w1 hown1 hgrow1 _; have b1 := below_app hnx hown hgrow1; have z1 := b1.size; have o1 := own_snoc hown1; have d1 := (b1.cell hg).trans ((hnx.cell hg).symm.trans c1); have d2 := (b1.cell hg).trans ((hnx.cell hg).symm.trans c2); clear hown1 hgrow1 c1 c2)
              | go_in)
            have B1 := Lib.hid b1
            have O1 := Lib.hid o1
            go_roundw
            case rel => exact ⟨k + 1, by omega, by go_num, by rw [HS2.out], by rw [HS2.out]; exact O1.out, B1.out⟩
            case measure => simp [intOf]; omega
          · have hne : (x != l) = true := by rw [bne_iff_ne]; exact he
            have hs2 : runR l n m (k + 1) = (out ++ [(l, n)] ++ [(x, y)], true) := by rw [HS.out]; unfold stepR; simp [hA, he]
            have HS2 := Lib.hid hs2
            have hge : l ≤ x := by omega
            clear HS hs2 he
            have lo : (out ++ [(l, n)]).length ≤ 8193 := by simp; omega
            go_wp2_with (first
              | (at_builtin; refine wpList_append_own _ rfl (.tmp 41) (.tmp 45) 29 rfl w.heap.size 52 i0 (.agg #[.int .i64 0, .int .i64 0]) 2 16 Try.underlying29 hi hz0 hz1 hz2 rfl (by decide) _ _ _ rfl (hown.alloc _) ⟨wr.heap.size, 0, none⟩ 1 1 [.int .i64 l, .int .i64 n] rfl rfl (pair_new _ _ _) (pair_one _ _) (by unfold maxLen; omega) (by omega) (by simp; omega) ?_; intro v1 w1 hown1 hgrow1 _; have b1 := below_app hnx hown hgrow1; have z1 := b1.size; have o1 := own_snoc hown1; have d1 := (b1.cell hg).trans ((hnx.cell hg).symm.trans c1); have d2 := (b1.cell hg).trans ((hnx.cell hg).symm.trans c2); clear hown1 hgrow1 c1 c2)
              | (at_builtin; refine wpList_append_own _ rfl (.tmp 54) (.tmp 59) 29 rfl w.heap.size 52 i0 (.agg #[.int .i64 0, .int .i64 0]) 2 16 Try.underlying29 hi hz0 hz1 hz2 rfl (by decide) _ _ _ rfl (o1.alloc _) ⟨w1.heap.size, 0, none⟩ 1 1 [.int .i64 x, .int .i64 y] rfl rfl (pair_new _ _ _) (pair_one _ _) (by unfold maxLen; omega) (by omega) (by simp; omega) ?_; intro v' w2 hown' hgrow _; have B1 := Lib.hid (below_app b1 o1 hgrow); have O1 := Lib.hid (own_snoc hown'); clear hown' hgrow)
              | go_in)
            go_roundw
            case rel => exact ⟨k + 1, by omega, by go_num, by rw [HS2.out], by rw [HS2.out]; exact O1.out, B1.out⟩
            case measure => simp [intOf]; omega
    · have hkm : k = m.length := by omega
      subst hkm
      have hend := runR_end l n m
      generalize (runR l n m m.length).1 = out at *
      generalize (runR l n m m.length).2 = put at *
      cases put with
      | true =>
        have he : out = insL m l n := by simpa using hend
        have HE := Lib.hid he
        clear he
        have B1 := Lib.hid hnx
        have O1 := Lib.hid hown
        clear hend hnx hown
        go_wp2
        go_ret
        exact ⟨_, rfl, by rw [← HE.out]; exact O1.out, B1.out⟩
      | false =>
        have he : out ++ [(l, n)] = insL m l n := by simpa using hend
        have HE := Lib.hid he
        clear he
        clear hend
        go_wp2_with (first
          | (at_builtin; refine wpList_append_own _ rfl (.tmp 63) (.tmp 67) 29 rfl w.heap.size 52 i0 (.agg #[.int .i64 0, .int .i64 0]) 2 16 Try.underlying29 hi hz0 hz1 hz2 rfl (by decide) _ _ _ rfl (hown.alloc _) ⟨wr.heap.size, 0, none⟩ 1 1 [.int .i64 l, .int .i64 n] rfl rfl (pair_new _ _ _) (pair_one _ _) (by unfold maxLen; omega) (by omega) (by simp; omega) ?_; intro v1 w1 hown1 hgrow1 _; have B1 := Lib.hid (below_app hnx hown hgrow1); have O1 := Lib.hid (own_snoc hown1); clear hown1 hgrow1)
          | go_in)
        go_ret
        exact ⟨v1, rfl, by rw [← HE.out]; exact O1.out, B1.out⟩

/-- A slice of pairs that reads as m. -/
def NewP (w : World) (m : List (Int × Int)) (e : Ending) (w' : World) : Prop := ∃ v, e = .returned v ∧ IsP w' v m ∧ Below w.heap.size w w'

set_option maxRecDepth 100000 in
set_option maxHeartbeats 1600000 in
theorem rwith_nil (l n : Int) (w : World) (h0 : 0 ≤ l) (h1 : l < 4096) (hn : 0 < n) (hn1 : n < 9223372036854775808) :
    Calls Try.prog 17 #[.slice none 0 0, .int .i64 l, .int .i64 n] w (NewP w [(l, n)]) := by
  obtain ⟨i0, hi, hz0, hz1, hz2⟩ := info_parts info52
  go_enter Try.func17, Try.ntmps17
  go_wp2_with fail
  refine (rat_nil l _).mono ?_
  rintro e w' ⟨rfl, rfl⟩
  go_wp2
  refine wp_loop_rounds 1 ?_
  rw [rounds_succ]
  go_wp2_with (first
    | (at_builtin; refine wpList_append_own _ rfl (.tmp 63) (.tmp 67) 29 rfl w.heap.size 52 i0 (.agg #[.int .i64 0, .int .i64 0]) 2 16 Try.underlying29 hi hz0 hz1 hz2 rfl (by decide) _ _ _ rfl ((World.ownsRow_nil w w.heap.size 52 2).alloc _) ⟨w.heap.size, 0, none⟩ 1 1 [.int .i64 l, .int .i64 n] rfl rfl (pair_new _ _ _) (pair_one _ _) (by unfold maxLen; omega) (by omega) (by simp) ?_; intro v1 w1 hown1 hgrow1 _; have B1 := Lib.hid (below_app (Below.refl _ _) (World.ownsRow_nil w w.heap.size 52 2) hgrow1); have O1 := Lib.hid hown1; clear hown1 hgrow1)
    | go_in)
  go_ret
  exact ⟨v1, rfl, O1.out.mono (Nat.zero_le _), B1.out⟩

set_option maxRecDepth 100000 in
set_option maxHeartbeats 1600000 in
theorem rwith_stay (v : Value) (m : List (Int × Int)) (l n : Int) (w : World) (hm : Ok m) (hP : IsP w v m) (h : l < 0 ∨ 4096 ≤ l ∨ n ≤ atL m l) :
    Calls Try.prog 17 #[v, .int .i64 l, .int .i64 n] w (NewP w m) := by
  have hl := ok_length hm
  have HP := Lib.hid hP
  clear hP hm
  by_cases h1 : l < 0
  · clear h
    go_enter Try.func17, Try.ntmps17
    go_wp2
    go_ret
    exact ⟨_, rfl, HP.out, Below.refl _ _⟩
  · by_cases h2 : 4096 ≤ l
    · clear h
      go_enter Try.func17, Try.ntmps17
      go_wp2
      go_ret
      exact ⟨_, rfl, HP.out, Below.refl _ _⟩
    · have h3 : n ≤ atL m l := by omega
      clear h
      go_enter Try.func17, Try.ntmps17
      go_wp2_with fail
      refine (rat_any _ m l _ (by omega) HP.out).mono ?_
      rintro e w' ⟨rfl, rfl⟩
      go_wp2
      go_ret
      exact ⟨_, rfl, HP.out, Below.refl _ _⟩

theorem rwith_any (v : Value) (m : List (Int × Int)) (l n : Int) (w : World) (hm : Ok m) (hn1 : n < 9223372036854775808) (hP : IsP w v m) :
    Calls Try.prog 17 #[v, .int .i64 l, .int .i64 n] w (NewP w (withL m l n)) := by
  unfold withL
  by_cases h : l < 0 ∨ 4096 ≤ l ∨ n ≤ atL m l
  · rw [if_pos h]; exact rwith_stay v m l n w hm hP h
  · rw [if_neg h]
    obtain ⟨rfl, rfl⟩ | ⟨g, cap, rfl, hg, hc⟩ := hP.open
    · exact rwith_nil l n w (by omega) (by omega) (by simp [atL] at h; omega) hn1
    · exact (rwith_some g cap m l n w hm hg (by omega) (by omega) (by omega) hP hc).mono fun e w' ⟨v', he, ho, hb⟩ => ⟨v', he, ho.mono (Nat.zero_le _), hb⟩
end Go.Proofs.Ytapaimoahiplcaa
