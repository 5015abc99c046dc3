/- awake of the statements answers true. -/
import Derived.Test.YtapaimoahiplcaaRefJoin
namespace Go.Proofs.Ytapaimoahiplcaa
open Go.RowKit Go.Shelf Go.Maps

/-- The block b is a variable of type View that holds the map p, whose pairs are m. -/
structure Bx (W : World) (b : Nat) (p : Option Nat) (m : List (Int × Int)) : Prop where
  c : W.heap[b]? = some (.cells #[.map p] 28 (0, 0))
  v : VW W p m
theorem Bx.l {W : World} {b : Nat} {p : Option Nat} {m : List (Int × Int)} (h : Bx W b p m) : b < W.heap.size := lt_of_block h.c
theorem Bx.cell {W : World} {b : Nat} {p : Option Nat} {m : List (Int × Int)} (h : Bx W b p m) : W.cell? ⟨b, 0, none⟩ = some (.map p) := cell_of_one h.c
theorem Bx.free {W : World} {b : Nat} {p : Option Nat} {m : List (Int × Int)} (h : Bx W b p m) : W.frozen? ⟨b, 0, none⟩ = false := free_of_one h.c
theorem Bx.below {W W' : World} {b : Nat} {p : Option Nat} {m : List (Int × Int)} (h : Bx W b p m) (hb : Below W.heap.size W W') : Bx W' b p m := ⟨(hb.block b h.l).trans h.c, h.v.below hb⟩
theorem Bx.new {W : World} {p : Option Nat} {m : List (Int × Int)} (h : VW W p m) : Bx (W.alloc (.cells #[.map p] 28)) W.heap.size p m := ⟨heap_alloc_new .., h.below ((Below.refl _ _).alloc (Nat.le_refl _) _)⟩
theorem VW.other {W : World} {b : Nat} {p : Option Nat} {m : List (Int × Int)} {x : Value} (h : VW W p m) (hb : W.heap[b]? = some (.cells #[x] 28 (0, 0))) (u : Value) : VW (W.setCell ⟨b, 0, none⟩ u) p m := by
  obtain ⟨h1, h2 | ⟨b', n, e, hn, ho⟩⟩ := h
  · exact ⟨h1, .inl h2⟩
  · refine ⟨h1, .inr ⟨b', n, e, hn, ho.setCell (fun he => ?_) _⟩⟩
    simp only at he
    obtain ⟨es, clock, hk, _⟩ := ho
    rw [he, hb] at hk
    cases hk
theorem Bx.other {W : World} {b b' : Nat} {p : Option Nat} {m : List (Int × Int)} {x : Value} (h : Bx W b p m) (hb : W.heap[b']? = some (.cells #[x] 28 (0, 0))) (hn : b ≠ b') (u : Value) : Bx (W.setCell ⟨b', 0, none⟩ u) b p m :=
  ⟨(Below.heap_setCell _ _ _ _ (by simpa using hn)).trans h.c, h.v.other hb u⟩
theorem Bx.set {W : World} {b : Nat} {p : Option Nat} {m : List (Int × Int)} (h : Bx W b p m) {p' : Option Nat} {m' : List (Int × Int)} (hv : VW W p' m') : Bx (W.setCell ⟨b, 0, none⟩ (.map p')) b p' m' :=
  ⟨one_setCell h.c, hv.other h.c _⟩

theorem below_is {pa pb : Option Nat} {ma mb : List (Int × Int)} {r : Bool} {w : World} (hr : belowL ma mb = r) (ha : VW w pa ma) (hb : VW w pb mb) :
    Calls Try.prog 18 #[.agg #[.map pa], .agg #[.map pb]] w fun e w' => e = .returned (.bool r) ∧ Below w.heap.size w w' := by
  subst hr
  exact below_any pa pb ma mb w ha hb

theorem below_new (w : World) (o : Obj) : Below w.heap.size w (w.alloc o) := (Below.refl _ _).alloc (Nat.le_refl _) _

set_option maxRecDepth 100000 in
set_option maxHeartbeats 1600000 in
theorem awake_any (w : World) : Calls Try.prog 11 #[] w fun e w' => e = .returned (.bool true) ∧ Below w.heap.size w w' := by
  have hops : IsOps (w.alloc (.cells #[.int .i64 3, .int .i64 2, .int .i64 1, .int .i64 4, .int .i64 3, .int .i64 1] 37)) (.slice (some ⟨w.heap.size, 0, none⟩) 3 3) [(3, 2), (1, 4), (3, 1)] := by
    refine .inr ⟨w.heap.size, 0, 3, rfl, by simp, fun i hi => ?_⟩
    match i, hi with
    | 0, _ => simp [go_sem]
    | 1, _ => simp [go_sem]
    | 2, _ => simp [go_sem]
    | n + 3, h => simp at h; omega
  have hma : madeL [(3, 2), (1, 4), (3, 1)] = [(1, 4), (3, 2)] := by decide
  have hok : OpsOk [(3, 2), (1, 4), (3, 1)] := by unfold OpsOk; decide
  have B0 := Lib.hid (below_new w (.cells #[.int .i64 3, .int .i64 2, .int .i64 1, .int .i64 4, .int .i64 3, .int .i64 1] 37))
  go_enter Try.func11, Try.ntmps11
  go_wp2_with fail
  refine (made_any _ _ _ hops (by simp) hok).mono ?_
  rw [hma]
  clear hops hok hma
  rintro e w1 ⟨pa, mv, rfl, va, -, b1⟩
  have B1 := Lib.hid (B0.out.trans (b1.mono B0.out.size))
  have A1 := Lib.hid (Bx.new va)
  clear b1 va B0
  go_wp2_with fail
  have N1 : Bx ((w1.alloc (.cells #[.map pa] 28)).alloc (.cells #[.map none] 28)) (w1.heap.size + 1) none [] := by
    have := Bx.new (VW.nil (w1.alloc (.cells #[.map pa] 28)))
    simpa using this
  have A1 := Lib.hid (A1.out.below (below_new _ (.cells #[.map none] 28)))
  have B1' := B1
  have B1 := Lib.hid ((B1.out.alloc (o := .cells #[.map pa] 28) B1.out.size).alloc (o := .cells #[.map none] 28) (by have := B1.out.size; simp; omega))
  refine (with_any none [] 3 3 _ (by omega) (by omega) (by omega) (by omega) (VW.nil _)).mono ?_
  rintro e w2 ⟨b5, h5, rfl, hv, hb⟩
  have A2 := A1.out.below hb
  have N2 := N1.below hb
  have B2 := B1.out.trans (hb.mono B1.out.size)
  have k1 := N2.cell
  have k2 := N2.free
  have A3 := Lib.hid (A2.other N2.c (by omega) (.map (some b5)))
  have N3 := Lib.hid (N2.set hv)
  have B3 := Lib.hid (B2.setCell (p := ⟨w1.heap.size + 1, 0, none⟩) (by have := B1'.out.size; simp; omega) (.map (some b5)))
  have k3 := A3.out.cell
  have k4 := N3.out.cell
  generalize w1.heap.size = ba at *
  clear B1'
  clear h5 hv hb A1 A2 N1 N2 B1 B2
  go_wp2_with fail
  generalize w2.setCell ⟨ba + 1, 0, none⟩ (.map (some b5)) = w3 at *
  clear k1 k2 k3 k4
  refine (join_any _ _ _ _ _ A3.out.v N3.out.v).mono ?_
  rintro e w4 ⟨b6, h6, rfl, hv, hb⟩
  have A4 := Lib.hid (A3.out.below hb)
  have N4 := Lib.hid (N3.out.below hb)
  have J4 := Lib.hid (Bx.new hv)
  have B4 := Lib.hid (B3.out.trans (hb.mono B3.out.size))
  clear h6 hv hb A3 N3 B3
  have A4 := Lib.hid (A4.out.below (below_new _ (.cells #[.map (some b6)] 28)))
  have N4 := Lib.hid (N4.out.below (below_new _ (.cells #[.map (some b6)] 28)))
  have B4 := Lib.hid (B4.out.alloc B4.out.size (.cells #[.map (some b6)] 28))
  have k1 := A4.out.cell
  go_wp2_with fail
  generalize w4.heap.size = bc at *
  generalize w4.alloc (.cells #[.map (some b6)] 28) = w5 at *
  clear k1
  refine (locs_any _ _ _ A4.out.v).mono ?_
  rintro e w6 ⟨v, rfl, hown, -, hb⟩
  obtain ⟨a, cap, rfl, hla⟩ := locs_at hown
  obtain ⟨g, rfl, hg, l0⟩ := hla 0 (by simp)
  obtain ⟨g', e1, hg', l1⟩ := hla 1 (by simp)
  cases e1
  have L := Lib.hid (show (w6.cell? ⟨g, 0, none⟩ = some (.int .i64 1) ∧ w6.cell? ⟨g, 1, none⟩ = some (.int .i64 3)) ∧ g < w6.heap.size from ⟨⟨l0, l1⟩, hg⟩)
  have A5 := Lib.hid (A4.out.below hb)
  have N5 := Lib.hid (N4.out.below hb)
  have J5 := Lib.hid (J4.out.below hb)
  have B5 := Lib.hid (B4.out.trans (hb.mono B4.out.size))
  clear hb A4 N4 J4 B4 hla hown l0 l1 hg hg'
  have k1 := A5.out.cell
  go_wp2_with fail
  clear k1
  have hmb : withL [] 3 3 = [(3, 3)] := by decide
  have hmc : joinL [(1, 4), (3, 2)] (withL [] 3 3) = [(1, 4), (3, 3)] := by decide
  rw [hmc] at J5
  rw [hmb] at N5
  clear hmc hmb
  refine (at_is (x := 3) (y := 2) (by omega) (by decide) A5.out.v).mono ?_
  rintro e wn ⟨rfl, hb⟩
  have A6 := Lib.hid (A5.out.below hb)
  have N6 := Lib.hid (N5.out.below hb)
  have J6 := Lib.hid (J5.out.below hb)
  have B6 := Lib.hid (B5.out.trans (hb.mono B5.out.size))
  have L6 := Lib.hid (show (wn.cell? ⟨g, 0, none⟩ = some (.int .i64 1) ∧ wn.cell? ⟨g, 1, none⟩ = some (.int .i64 3)) ∧ g < wn.heap.size from ⟨⟨(hb.cell (p := ⟨g, 0, none⟩) L.out.2).trans L.out.1.1, (hb.cell (p := ⟨g, 1, none⟩) L.out.2).trans L.out.1.2⟩, Nat.lt_of_lt_of_le L.out.2 hb.size⟩)
  clear hb A5 N5 J5 B5 L
  have A5 := A6
  have N5 := N6
  have J5 := J6
  have B5 := B6
  have L := L6
  clear A6 N6 J6 B6 L6
  have k1 := A5.out.cell
  have k2 := N5.out.cell
  have k3 := J5.out.cell
  have k4 := L.out.1.1
  have k5 := L.out.1.2
  go_wp2_with fail
  clear k1 k2 k3 k4 k5
  refine (at_is (x := 1) (y := 4) (by omega) (by decide) J5.out.v).mono ?_
  rintro e wn ⟨rfl, hb⟩
  have A6 := Lib.hid (A5.out.below hb)
  have N6 := Lib.hid (N5.out.below hb)
  have J6 := Lib.hid (J5.out.below hb)
  have B6 := Lib.hid (B5.out.trans (hb.mono B5.out.size))
  have L6 := Lib.hid (show (wn.cell? ⟨g, 0, none⟩ = some (.int .i64 1) ∧ wn.cell? ⟨g, 1, none⟩ = some (.int .i64 3)) ∧ g < wn.heap.size from ⟨⟨(hb.cell (p := ⟨g, 0, none⟩) L.out.2).trans L.out.1.1, (hb.cell (p := ⟨g, 1, none⟩) L.out.2).trans L.out.1.2⟩, Nat.lt_of_lt_of_le L.out.2 hb.size⟩)
  clear hb A5 N5 J5 B5 L
  have A5 := A6
  have N5 := N6
  have J5 := J6
  have B5 := B6
  have L := L6
  clear A6 N6 J6 B6 L6
  have k1 := A5.out.cell
  have k2 := N5.out.cell
  have k3 := J5.out.cell
  have k4 := L.out.1.1
  have k5 := L.out.1.2
  go_wp2_with fail
  clear k1 k2 k3 k4 k5
  refine (at_is (x := 3) (y := 3) (by omega) (by decide) J5.out.v).mono ?_
  rintro e wn ⟨rfl, hb⟩
  have A6 := Lib.hid (A5.out.below hb)
  have N6 := Lib.hid (N5.out.below hb)
  have J6 := Lib.hid (J5.out.below hb)
  have B6 := Lib.hid (B5.out.trans (hb.mono B5.out.size))
  have L6 := Lib.hid (show (wn.cell? ⟨g, 0, none⟩ = some (.int .i64 1) ∧ wn.cell? ⟨g, 1, none⟩ = some (.int .i64 3)) ∧ g < wn.heap.size from ⟨⟨(hb.cell (p := ⟨g, 0, none⟩) L.out.2).trans L.out.1.1, (hb.cell (p := ⟨g, 1, none⟩) L.out.2).trans L.out.1.2⟩, Nat.lt_of_lt_of_le L.out.2 hb.size⟩)
  clear hb A5 N5 J5 B5 L
  have A5 := A6
  have N5 := N6
  have J5 := J6
  have B5 := B6
  have L := L6
  clear A6 N6 J6 B6 L6
  have k1 := A5.out.cell
  have k2 := N5.out.cell
  have k3 := J5.out.cell
  have k4 := L.out.1.1
  have k5 := L.out.1.2
  go_wp2_with fail
  clear k1 k2 k3 k4 k5
  refine (below_is (r := true) (by decide) A5.out.v J5.out.v).mono ?_
  rintro e wn ⟨rfl, hb⟩
  have A6 := Lib.hid (A5.out.below hb)
  have N6 := Lib.hid (N5.out.below hb)
  have J6 := Lib.hid (J5.out.below hb)
  have B6 := Lib.hid (B5.out.trans (hb.mono B5.out.size))
  have L6 := Lib.hid (show (wn.cell? ⟨g, 0, none⟩ = some (.int .i64 1) ∧ wn.cell? ⟨g, 1, none⟩ = some (.int .i64 3)) ∧ g < wn.heap.size from ⟨⟨(hb.cell (p := ⟨g, 0, none⟩) L.out.2).trans L.out.1.1, (hb.cell (p := ⟨g, 1, none⟩) L.out.2).trans L.out.1.2⟩, Nat.lt_of_lt_of_le L.out.2 hb.size⟩)
  clear hb A5 N5 J5 B5 L
  have A5 := A6
  have N5 := N6
  have J5 := J6
  have B5 := B6
  have L := L6
  clear A6 N6 J6 B6 L6
  have k1 := A5.out.cell
  have k2 := N5.out.cell
  have k3 := J5.out.cell
  have k4 := L.out.1.1
  have k5 := L.out.1.2
  go_wp2_with fail
  clear k1 k2 k3 k4 k5
  refine (below_is (r := true) (by decide) N5.out.v J5.out.v).mono ?_
  rintro e wn ⟨rfl, hb⟩
  have A6 := Lib.hid (A5.out.below hb)
  have N6 := Lib.hid (N5.out.below hb)
  have J6 := Lib.hid (J5.out.below hb)
  have B6 := Lib.hid (B5.out.trans (hb.mono B5.out.size))
  have L6 := Lib.hid (show (wn.cell? ⟨g, 0, none⟩ = some (.int .i64 1) ∧ wn.cell? ⟨g, 1, none⟩ = some (.int .i64 3)) ∧ g < wn.heap.size from ⟨⟨(hb.cell (p := ⟨g, 0, none⟩) L.out.2).trans L.out.1.1, (hb.cell (p := ⟨g, 1, none⟩) L.out.2).trans L.out.1.2⟩, Nat.lt_of_lt_of_le L.out.2 hb.size⟩)
  clear hb A5 N5 J5 B5 L
  have A5 := A6
  have N5 := N6
  have J5 := J6
  have B5 := B6
  have L := L6
  clear A6 N6 J6 B6 L6
  have k1 := A5.out.cell
  have k2 := N5.out.cell
  have k3 := J5.out.cell
  have k4 := L.out.1.1
  have k5 := L.out.1.2
  go_wp2_with fail
  clear k1 k2 k3 k4 k5
  refine (below_is (r := false) (by decide) J5.out.v A5.out.v).mono ?_
  rintro e wn ⟨rfl, hb⟩
  have A6 := Lib.hid (A5.out.below hb)
  have N6 := Lib.hid (N5.out.below hb)
  have J6 := Lib.hid (J5.out.below hb)
  have B6 := Lib.hid (B5.out.trans (hb.mono B5.out.size))
  have L6 := Lib.hid (show (wn.cell? ⟨g, 0, none⟩ = some (.int .i64 1) ∧ wn.cell? ⟨g, 1, none⟩ = some (.int .i64 3)) ∧ g < wn.heap.size from ⟨⟨(hb.cell (p := ⟨g, 0, none⟩) L.out.2).trans L.out.1.1, (hb.cell (p := ⟨g, 1, none⟩) L.out.2).trans L.out.1.2⟩, Nat.lt_of_lt_of_le L.out.2 hb.size⟩)
  clear hb A5 N5 J5 B5 L
  have A5 := A6
  have N5 := N6
  have J5 := J6
  have B5 := B6
  have L := L6
  clear A6 N6 J6 B6 L6
  have k1 := A5.out.cell
  have k2 := N5.out.cell
  have k3 := J5.out.cell
  have k4 := L.out.1.1
  have k5 := L.out.1.2
  go_wp2
  go_ret
  exact ⟨rfl, B5.out⟩
end Go.Proofs.Ytapaimoahiplcaa
