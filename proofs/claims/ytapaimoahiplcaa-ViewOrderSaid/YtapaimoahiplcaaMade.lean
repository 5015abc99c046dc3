/- Made of the statements: it builds a view and the reference's pairs, both of the same list. -/
import Derived.Test.YtapaimoahiplcaaRefWith
import Derived.OpenShut
import Derived.OneCell
import Derived.Deep.RegionHeld3
import Derived.WalkKit
import Derived.WalkSpells
import Derived.WalkLawsBesides
import Derived.Carry
import Derived.Lib.Hide
import Derived.Maps.Own
import Derived.Maps.OwnOps
import Derived.Maps.OwnSet
import Derived.Maps.RangeWalk
import Derived.Maps.Ext
import Derived.Deep.LoopGhost
namespace Go.Proofs.Ytapaimoahiplcaa
open Go.RowKit Go.Shelf Go.Maps

/-- The slice v of calls reads as ops. -/
def IsOps (w : World) (v : Value) (ops : List (Int × Int)) : Prop :=
  (∃ a cap, v = .slice a 0 cap ∧ ops = []) ∨ ∃ b off cap, v = .slice (some ⟨b, off, none⟩) ops.length cap ∧ b < w.heap.size ∧
    ∀ i, i < ops.length → w.cell? ⟨b, off + i * 2, none⟩ = some (.int .i64 (ops.getD i (0, 0)).1) ∧ w.cell? ⟨b, off + i * 2 + 1, none⟩ = some (.int .i64 (ops.getD i (0, 0)).2)
def OpsOk (ops : List (Int × Int)) : Prop := ∀ p ∈ ops, (-9223372036854775808 ≤ p.1 ∧ p.1 < 9223372036854775808) ∧ (-9223372036854775808 ≤ p.2 ∧ p.2 < 9223372036854775808)

theorem IsOps.below {w w1 : World} {v : Value} {ops : List (Int × Int)} (h : IsOps w v ops) (hb : Below w.heap.size w w1) : IsOps w1 v ops := by
  rcases h with h | ⟨b, off, cap, hv, hl, hc⟩
  · exact .inl h
  · exact .inr ⟨b, off, cap, hv, Nat.lt_of_lt_of_le hl hb.size, fun i hi => ⟨(hb.cell hl).trans (hc i hi).1, (hb.cell hl).trans (hc i hi).2⟩⟩

/-- The view that a list of calls of With makes. -/
def madeL (ops : List (Int × Int)) : List (Int × Int) := joinL [] ops

theorem opsOk_at {ops : List (Int × Int)} (h : OpsOk ops) {k : Nat} (hk : k < ops.length) : (-9223372036854775808 ≤ (ops.getD k (0, 0)).1 ∧ (ops.getD k (0, 0)).1 < 9223372036854775808) ∧ (-9223372036854775808 ≤ (ops.getD k (0, 0)).2 ∧ (ops.getD k (0, 0)).2 < 9223372036854775808) := by
  rw [List.getD, List.getElem?_eq_getElem hk]
  exact h _ (List.getElem_mem hk)

theorem ok_made {ops : List (Int × Int)} (h : OpsOk ops) : Ok (madeL ops) := ok_joinL ok_nil (fun p hp => (h p hp).2.2)
theorem opsOk_take {ops : List (Int × Int)} (h : OpsOk ops) (k : Nat) : OpsOk (ops.take k) := fun p hp => h p (List.mem_of_mem_take hp)
theorem made_succ (ops : List (Int × Int)) (k : Nat) (h : k < ops.length) : madeL (ops.take (k + 1)) = withL (madeL (ops.take k)) (ops.getD k (0, 0)).1 (ops.getD k (0, 0)).2 := by
  unfold madeL joinL
  rw [List.take_succ_eq_append_getElem h, List.foldl_append, List.getD, List.getElem?_eq_getElem h]
  rfl

/-- What holds of Made's own blocks: bp the result, bp + 1 the view. -/
structure InM (w : World) (bp : Nat) (pv : Option Nat) (mv : Value) (m : List (Int × Int)) (W : World) : Prop where
  r : W.heap[bp]? = some (.cells #[.map none] 28 (0, 0))
  c : W.heap[bp + 1]? = some (.cells #[.map pv] 28 (0, 0))
  v : VW W pv m
  p : IsP W mv m
  g : Below bp w W

theorem InM.l {w : World} {bp : Nat} {pv : Option Nat} {mv : Value} {m : List (Int × Int)} {W : World} (h : InM w bp pv mv m W) : bp + 1 < W.heap.size := lt_of_block h.c

theorem InM.below {w : World} {bp : Nat} {pv : Option Nat} {mv : Value} {m : List (Int × Int)} {W W' : World} (h : InM w bp pv mv m W) (hb : Below W.heap.size W W') : InM w bp pv mv m W' :=
  ⟨(hb.block bp (by have := h.l; omega)).trans h.r, (hb.block (bp + 1) h.l).trans h.c, h.v.below hb, h.p.below hb, h.g.trans (hb.mono (by have := h.l; omega))⟩

theorem IsP.other {w : World} {v : Value} {m : List (Int × Int)} (h : IsP w v m) {b : Nat} {x : Value} (hb : w.heap[b]? = some (.cells #[x] 28 (0, 0))) (u : Value) : IsP (w.setCell ⟨b, 0, none⟩ u) v m := by
  refine ownsRow_setCell_other h (fun e => ?_) u
  obtain ⟨h1, ⟨h2, h3⟩ | ⟨g, cap, cur, hv, hB, hh, r⟩⟩ := h
  · subst h2; simp [Value.ownBlock] at e
  · subst hv
    simp only [Value.ownBlock, Option.some.injEq] at e
    subst e
    rw [hb] at hh
    simp at hh

/-- The view is stored. -/
theorem InM.store {w : World} {bp : Nat} {pv : Option Nat} {mv : Value} {m : List (Int × Int)} {W : World} (h : InM w bp pv mv m W) {b : Nat} {v : Value} {m' : List (Int × Int)} (hv : VW W (some b) m') (hp : IsP W v m') (hb : b ≠ bp + 1) :
    InM w bp (some b) v m' (W.setCell ⟨bp + 1, 0, none⟩ (.map (some b))) := by
  refine ⟨?_, one_setCell h.c, ?_, hp.other h.c _, h.g.setCell (by simp) _⟩
  · rw [Below.heap_setCell _ _ _ _ (by simp)]; exact h.r
  · obtain ⟨h1, h2 | ⟨b', n, e, hn, ho⟩⟩ := hv
    · exact ⟨h1, .inl h2⟩
    · refine ⟨h1, .inr ⟨b', n, e, hn, ho.setCell (by cases e; simpa using hb) _⟩⟩

/-- The view is returned: its value goes into the result's box. -/
theorem InM.drop {w : World} {bp : Nat} {pv : Option Nat} {mv : Value} {m : List (Int × Int)} {W : World} (h : InM w bp pv mv m W) :
    VW (W.setCell ⟨bp, 0, none⟩ (.map pv)) pv m ∧ IsP (W.setCell ⟨bp, 0, none⟩ (.map pv)) mv m ∧ Below bp w (W.setCell ⟨bp, 0, none⟩ (.map pv)) := by
  refine ⟨?_, h.p.other h.r _, h.g.setCell (by simp) _⟩
  obtain ⟨h1, h2 | ⟨b', n, e, hn, ho⟩⟩ := h.v
  · exact ⟨h1, .inl h2⟩
  · refine ⟨h1, .inr ⟨b', n, e, hn, ho.setCell (fun hb => ?_) _⟩⟩
    simp only at hb
    obtain ⟨es, clock, hk, _⟩ := ho
    rw [hb, h.r] at hk
    cases hk

/-- The box of the loop's variable. -/
def HasO (w : World) (b : Nat) (x y : Int) : Prop := (w.cell? ⟨b, 0, none⟩ = some (.int .i64 x) ∧ w.cell? ⟨b, 1, none⟩ = some (.int .i64 y)) ∧ b < w.heap.size
theorem HasO.new (w : World) (x y : Int) : HasO (w.alloc (.cells #[.int .i64 x, .int .i64 y] 37)) w.heap.size x y := by
  refine ⟨⟨?_, ?_⟩, by simp⟩ <;> simp [go_sem]
theorem HasO.below {W w1 : World} {b : Nat} {x y : Int} (h : HasO W b x y) (hb : Below W.heap.size W w1) : HasO w1 b x y :=
  ⟨⟨(hb.cell h.2).trans h.1.1, (hb.cell h.2).trans h.1.2⟩, Nat.lt_of_lt_of_le h.2 hb.size⟩

theorem blocks2 (w : World) (o1 o2 : Obj) : ((w.alloc o1).alloc o2).heap[w.heap.size]? = some o1 ∧ ((w.alloc o1).alloc o2).heap[w.heap.size + 1]? = some o2 := by
  constructor
  · rw [Below.heap_alloc _ _ _ (by simp)]; exact heap_alloc_new ..
  · have : w.heap.size + 1 = (w.alloc o1).heap.size := by simp
    rw [this]; exact heap_alloc_new ..

def HeadM (w : World) (bp : Nat) (ops : List (Int × Int)) (mv iv : Value) (wr : World) : Prop :=
  ∃ (k : Nat) (pv : Option Nat), k ≤ ops.length ∧ iv = .int .i64 k ∧ InM w bp pv mv (madeL (ops.take k)) wr

set_option maxRecDepth 100000 in
set_option maxHeartbeats 1600000 in
theorem made_some (b off cap : Nat) (ops : List (Int × Int)) (w : World) (hl : ops.length ≤ 1000) (ho : OpsOk ops) (hbl : b < w.heap.size)
    (hc : ∀ i, i < ops.length → w.cell? ⟨b, off + i * 2, none⟩ = some (.int .i64 (ops.getD i (0, 0)).1) ∧ w.cell? ⟨b, off + i * 2 + 1, none⟩ = some (.int .i64 (ops.getD i (0, 0)).2)) :
    Calls Try.prog 12 #[.slice (some ⟨b, off, none⟩) ops.length cap] w fun e w' => ∃ pv mv, e = .returned (.tuple #[.agg #[.map pv], mv]) ∧ VW w' pv (madeL ops) ∧ IsP w' mv (madeL ops) ∧ Below w.heap.size w w' := by
  have HC := Lib.hid hc
  have HO := Lib.hid ho
  clear hc ho
  go_enter Try.func12, Try.ntmps12
  go_wp2
  go_loopw [5, 10] (fun mv iv wr => HeadM w w.heap.size ops mv iv wr) (fun _ iv _ => ops.length - (intOf iv).toNat)
  case atStart => exact ⟨0, none, by omega, rfl, ⟨(blocks2 w _ _).1, (blocks2 w _ _).2, (VW.nil _), IsP.nil _, b2 w _ _⟩⟩
  case round =>
    obtain ⟨k, pv, hk, rfl, hI⟩ := hrel
    have HI := Lib.hid hI
    clear hI
    by_cases hlt : k < ops.length
    · have hcell : wr.cell? ⟨b, off + k * 2, none⟩ = some (.int .i64 (ops.getD k (0, 0)).1) ∧ wr.cell? ⟨b, off + k * 2 + 1, none⟩ = some (.int .i64 (ops.getD k (0, 0)).2) :=
        ⟨(HI.out.g.cell hbl).trans (HC.out k hlt).1, (HI.out.g.cell hbl).trans (HC.out k hlt).2⟩
      obtain ⟨c1, c2⟩ := hcell
      have hbd := opsOk_at HO.out hlt
      have hms := made_succ ops k hlt
      generalize (ops.getD k (0, 0)).1 = x at *
      generalize (ops.getD k (0, 0)).2 = y at *
      obtain ⟨⟨x0, x1⟩, y0, y1⟩ := hbd
      have HM := Lib.hid hms
      have OM := Lib.hid (ok_made (opsOk_take HO.out k))
      clear hms
      go_wp2_with fail
      have i1 := HI.out.below ((Below.refl _ _).alloc (Nat.le_refl _) (.cells #[.int .i64 x, .int .i64 y] 37))
      have o1 := HasO.new wr x y
      have hbo : w.heap.size + 1 < wr.heap.size := HI.out.l
      clear c1 c2 HI
      generalize wr.heap.size = bo at *
      generalize hbp : w.heap.size = bp at *
      have HBP := Lib.hid hbp
      clear hbp
      generalize wr.alloc (.cells #[.int .i64 x, .int .i64 y] 37) = W at *
      have i1 : InM w bp pv u5 (madeL (ops.take k)) W.drew := ⟨i1.r, i1.c, i1.v, i1.p, i1.g.drew⟩
      have o1 : HasO W.drew bo x y := o1
      generalize madeL (ops.take k) = m at *
      refine wp_region_held_drew (S := fun w' => w'.cell? ⟨bo, 0, none⟩ = some (.int .i64 x) ∧ w'.cell? ⟨bo, 1, none⟩ = some (.int .i64 y)) (by kernel_rfl) ⟨o1.1.1, o1.1.2⟩ (fun hHeld => ?_)
      refine wpAnyH_take (i := 1) (oi := _) (v := ?v1) rfl (by kernel_rfl) (by kernel_rfl) (by kernel_rfl) (fun _ _ _ h => h) (Or.inl ⟨by rfl, ?y1⟩) (by assumption) ?r1
      case y1 => (intro w hSw; (try dsimp only at hSw); go_simp; try with_reducible rfl)
      (try simp only [Act.put])
      (try simp only [List.setIfInBounds_toArray])
      (try simp only [List.set_cons_succ])
      (try simp only [List.set_cons_zero])
      refine wpAnyH_take (i := 3) (oi := _) (v := ?v3) rfl (by kernel_rfl) (by kernel_rfl) (by kernel_rfl) (fun _ _ _ h => h) (Or.inl ⟨by rfl, ?y3⟩) (by assumption) ?r3
      case y3 => (intro w hSw; (try dsimp only at hSw); go_simp; try with_reducible rfl)
      (try simp only [Act.put])
      (try simp only [List.setIfInBounds_toArray])
      (try simp only [List.set_cons_succ])
      (try simp only [List.set_cons_zero])
      refine wpAnyH_take (i := 6) (oi := _) (v := ?v6) rfl (by kernel_rfl) (by kernel_rfl) (by kernel_rfl) (fun _ _ _ h => h) (Or.inl ⟨by rfl, ?y6⟩) (by assumption) ?r6
      case y6 => (intro w hSw; (try dsimp only at hSw); go_simp; try with_reducible rfl)
      (try simp only [Act.put])
      (try simp only [List.setIfInBounds_toArray])
      (try simp only [List.set_cons_succ])
      (try simp only [List.set_cons_zero])
      refine wpAnyH_take (i := 7) (oi := _) (v := ?v7) rfl (by kernel_rfl) (by kernel_rfl) (by kernel_rfl) (fun _ _ _ h => h) (Or.inl ⟨by rfl, ?y7⟩) (by assumption) ?r7
      case y7 => (intro w hSw; (try dsimp only at hSw); go_simp; try with_reducible rfl)
      (try simp only [Act.put])
      (try simp only [List.setIfInBounds_toArray])
      (try simp only [List.set_cons_succ])
      (try simp only [List.set_cons_zero])
      refine wpAnyH_take (i := 9) (oi := _) (v := ?v9) rfl (by kernel_rfl) (by kernel_rfl) (by kernel_rfl) (fun _ _ _ h => h) (Or.inl ⟨by rfl, ?y9⟩) (by assumption) ?r9
      case y9 => (intro w hSw; (try dsimp only at hSw); go_simp; try with_reducible rfl)
      (try simp only [Act.put])
      (try simp only [List.setIfInBounds_toArray])
      (try simp only [List.set_cons_succ])
      (try simp only [List.set_cons_zero])
      refine wpAnyH_take (i := 2) (oi := _) (v := ?v2) rfl (by kernel_rfl) (by kernel_rfl) (by kernel_rfl) (fun _ _ _ h => h) (Or.inl ⟨by rfl, ?y2⟩) (by assumption) ?r2
      case y2 => (intro w hSw; (try dsimp only at hSw); go_simp; try with_reducible rfl)
      (try simp only [Act.put])
      (try simp only [List.setIfInBounds_toArray])
      (try simp only [List.set_cons_succ])
      (try simp only [List.set_cons_zero])
      refine wpAnyH_take (i := 4) (oi := _) (v := ?v4) rfl (by kernel_rfl) (by kernel_rfl) (by kernel_rfl) (fun _ _ _ h => h) (Or.inl ⟨by rfl, ?y4⟩) (by assumption) ?r4
      case y4 => (intro w hSw; (try dsimp only at hSw); go_simp; try with_reducible rfl)
      (try simp only [Act.put])
      (try simp only [List.setIfInBounds_toArray])
      (try simp only [List.set_cons_succ])
      (try simp only [List.set_cons_zero])
      refine wpAnyH_take (i := 8) (oi := _) (v := ?v8) rfl (by kernel_rfl) (by kernel_rfl) (by kernel_rfl) (fun _ _ _ h => h) (Or.inl ⟨by rfl, ?y8⟩) (by assumption) ?r8
      case y8 => (intro w hSw; (try dsimp only at hSw); go_simp; try with_reducible rfl)
      (try simp only [Act.put])
      (try simp only [List.setIfInBounds_toArray])
      (try simp only [List.set_cons_succ])
      (try simp only [List.set_cons_zero])
      refine wpAnyH_take (i := 10) (oi := _) (v := ?v10) rfl (by kernel_rfl) (by kernel_rfl) (by kernel_rfl) (fun _ _ _ h => h) (Or.inl ⟨by rfl, ?y10⟩) (by assumption) ?r10
      case y10 => (intro w hSw; (try dsimp only at hSw); go_simp; try with_reducible rfl)
      (try simp only [Act.put])
      (try simp only [List.setIfInBounds_toArray])
      (try simp only [List.set_cons_succ])
      (try simp only [List.set_cons_zero])
      have k1 := cell_of_one i1.c
      refine wpAnyH_ready (rs := [0]) (by kernel_rfl) (by simp) ?_
      refine AllReadyH.cons rfl (fun K hK => ?_) AllReadyH.nil
      go_simp
      refine hK.out _ _ ?_ (fun hHeld => ?_)
      · exact ⟨o1.1.1, o1.1.2⟩
      clear hK K
      (try simp only [Act.put])
      (try simp only [List.setIfInBounds_toArray])
      (try simp only [List.set_cons_succ])
      (try simp only [List.set_cons_zero])
      refine wpAnyH_ready (rs := [5]) (by kernel_rfl) (by simp) ?_
      refine AllReadyH.cons rfl (fun K hK => ?_) AllReadyH.nil
      go_simp
      go_at_call 16
      refine (with_any _ m _ _ _ x0 x1 y0 y1 i1.v).mono ?_
      rintro e w5 ⟨b5, h5, rfl, hv5, hb5⟩
      have i2 := i1.below hb5
      have o2 := o1.below hb5
      go_simp
      refine hK.out _ _ ?_ (fun hHeld => ?_)
      · exact ⟨o2.1.1, o2.1.2⟩
      clear hK K
      (try simp only [Act.put])
      (try simp only [List.setIfInBounds_toArray])
      (try simp only [List.set_cons_succ])
      (try simp only [List.set_cons_zero])
      refine wpAnyH_ready (rs := [11]) (by kernel_rfl) (by simp) ?_
      refine AllReadyH.cons rfl (fun K hK => ?_) AllReadyH.nil
      go_simp
      go_at_call 17
      refine (rwith_any _ m _ _ _ OM.out y1 i2.p).mono ?_
      rintro e w6 ⟨v6, rfl, hp6, hb6⟩
      have i3 := i2.below hb6
      have o3 := o2.below hb6
      have hv6 := hv5.below hb6
      have k3 := cell_of_one i3.c
      have k4 := free_of_one i3.c
      go_simp
      refine hK.out _ _ ?_ (fun hHeld => ?_)
      · exact ⟨o3.1.1, o3.1.2⟩
      clear hK K
      (try simp only [Act.put])
      (try simp only [List.setIfInBounds_toArray])
      (try simp only [List.set_cons_succ])
      (try simp only [List.set_cons_zero])
      refine wpAnyH_ready (rs := [12]) (by kernel_rfl) (by simp) ?_
      refine AllReadyH.cons rfl (fun K hK => ?_) AllReadyH.nil
      go_simp
      refine hK.out _ _ ?_ (fun hHeld => ?_)
      · exact ⟨(World.cell?_of_block (Below.heap_setCell _ _ _ _ (by simp; omega))).trans o3.1.1, (World.cell?_of_block (Below.heap_setCell _ _ _ _ (by simp; omega))).trans o3.1.2⟩
      clear hK K
      (try simp only [Act.put])
      (try simp only [List.setIfInBounds_toArray])
      (try simp only [List.set_cons_succ])
      (try simp only [List.set_cons_zero])
      refine wpAnyH_ready (rs := [13]) (by kernel_rfl) (by simp) ?_
      refine AllReadyH.cons rfl (fun K hK => ?_) AllReadyH.nil
      go_simp
      refine hK.out _ _ ?_ (fun hHeld => ?_)
      · exact hHeld
      clear hK K
      (try simp only [Act.put])
      (try simp only [List.setIfInBounds_toArray])
      (try simp only [List.set_cons_succ])
      (try simp only [List.set_cons_zero])
      refine wpAnyH_done (by kernel_rfl) ?_ _
      have i4 := i3.store hv6 hp6 (by have := i1.l; omega)
      rw [← HM.out] at i4
      have I4 := Lib.hid i4
      clear k1 k3 k4 i1 i2 i3 i4 o1 o2 o3 hv5 hv6 hp6 hb5 hb6 h5
      go_wp2
      rw [HBP.out]
      refine ⟨⟨_, _, _, _, _, _, _, _, _, _, _, _, _, _, _, _, _, _, _, ?h, rfl⟩, ?d⟩
      case h => exact ⟨k + 1, some b5, by omega, by simp, I4.out⟩
      case d => (simp [intOf]; omega)
    · have he : k = ops.length := by omega
      subst he
      rw [List.take_length] at HI
      have i1 := HI.out
      have k1 := cell_of_one i1.c
      have k2 := cell_of_one i1.r
      have k3 := free_of_one i1.r
      have k4 := World.cell?_setCell_same wr ⟨w.heap.size, 0, none⟩ (.map pv) k2
      have i2 := i1.drop
      clear HI i1
      go_wp2
      refine bodyPost_ret (v := .tuple #[.agg #[.map pv], u5]) (by simp [results, Try.f12, go_sem, k4]) rfl ?_
      exact ⟨pv, u5, rfl, i2⟩

set_option maxHeartbeats 800000 in
theorem made_none (a : Option Addr) (cap : Nat) (w : World) :
    Calls Try.prog 12 #[.slice a 0 cap] w fun e w' => ∃ pv mv, e = .returned (.tuple #[.agg #[.map pv], mv]) ∧ VW w' pv (madeL []) ∧ IsP w' mv (madeL []) ∧ Below w.heap.size w w' := by
  go_enter Try.func12, Try.ntmps12
  go_wp2
  go_loopw [5, 10] (fun mv iv wr => HeadM w w.heap.size [] mv iv wr) (fun _ iv _ => 0 - (intOf iv).toNat)
  case atStart => exact ⟨0, none, by simp, rfl, ⟨(blocks2 w _ _).1, (blocks2 w _ _).2, (VW.nil _), IsP.nil _, b2 w _ _⟩⟩
  case round =>
    obtain ⟨k, pv, hk, rfl, hI⟩ := hrel
    have he : k = 0 := by simpa using hk
    subst he
    have i1 : InM w w.heap.size pv u5 (madeL []) wr := by simpa using hI
    have k1 := cell_of_one i1.c
    have k2 := cell_of_one i1.r
    have k3 := free_of_one i1.r
    have k4 := World.cell?_setCell_same wr ⟨w.heap.size, 0, none⟩ (.map pv) k2
    have i2 := i1.drop
    clear hI i1
    go_wp2
    refine bodyPost_ret (v := .tuple #[.agg #[.map pv], u5]) (by simp [results, Try.f12, go_sem, k4]) rfl ?_
    exact ⟨pv, u5, rfl, i2⟩

/-- What Made answers: a view and the reference's pairs, both of madeL ops. -/
def IsMade (w : World) (m : List (Int × Int)) (e : Ending) (w' : World) : Prop :=
  ∃ pv mv, e = .returned (.tuple #[.agg #[.map pv], mv]) ∧ VW w' pv m ∧ IsP w' mv m ∧ Below w.heap.size w w'

theorem made_any (v : Value) (ops : List (Int × Int)) (w : World) (h : IsOps w v ops) (hl : ops.length ≤ 1000) (ho : OpsOk ops) :
    Calls Try.prog 12 #[v] w (IsMade w (madeL ops)) := by
  rcases h with ⟨a, cap, rfl, rfl⟩ | ⟨b, off, cap, rfl, hb, hc⟩
  · exact made_none a cap w
  · exact made_some b off cap ops w hl ho hb hc
end Go.Proofs.Ytapaimoahiplcaa
