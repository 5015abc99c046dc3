/- Is of the statements: a view and the reference's pairs of the same list agree. -/
import Derived.Test.YtapaimoahiplcaaMade
import Derived.Deep.QuietTactic
import Derived.BigQuiet
namespace Go.Proofs.Ytapaimoahiplcaa
open Go.RowKit Go.Shelf Go.Maps

theorem IsP.at {w : World} {v : Value} {m : List (Int × Int)} (h : IsP w v m) :
    ∃ a cap, v = .slice a m.length cap ∧ ∀ i, i < m.length → ∃ g, a = some ⟨g, 0, none⟩ ∧ g < w.heap.size ∧ w.cell? ⟨g, i * 2, none⟩ = some (.int .i64 (m.getD i (0, 0)).1) ∧ w.cell? ⟨g, i * 2 + 1, none⟩ = some (.int .i64 (m.getD i (0, 0)).2) := by
  obtain ⟨rfl, rfl⟩ | ⟨g, cap, rfl, hg, hc⟩ := h.open
  · exact ⟨none, 0, rfl, fun i hi => by simp at hi⟩
  · exact ⟨_, cap, rfl, fun i hi => ⟨g, rfl, hg, hc i hi⟩⟩

theorem locs_at {w : World} {B : Nat} {v : Value} {m : List (Int × Int)} (h : w.ownsRow B 23 1 v m.length (m.map fun p => .int .i64 p.1)) :
    ∃ a cap, v = .slice a m.length cap ∧ ∀ i, i < m.length → ∃ g, a = some ⟨g, 0, none⟩ ∧ g < w.heap.size ∧ w.cell? ⟨g, i, none⟩ = some (.int .i64 (m.getD i (0, 0)).1) := by
  have h0 := h
  obtain ⟨h1, ⟨h2, h3⟩ | ⟨g, cap, cur, hv, hB, hh, r⟩⟩ := h
  · exact ⟨none, 0, by rw [h2, h3], fun i hi => by omega⟩
  · subst hv
    refine ⟨_, cap, rfl, fun i hi => ⟨g, rfl, (Array.getElem?_eq_some_iff.1 hh).1, ?_⟩⟩
    refine (World.ownsRow.cellAt h0 i (by omega)).trans ?_
    simp [List.getD, List.getElem?_eq_getElem hi]

theorem pair_at {m : List (Int × Int)} (h : Ok m) {k : Nat} (hk : k < m.length) :
    (0 ≤ (m.getD k (0, 0)).1 ∧ (m.getD k (0, 0)).1 < 4096) ∧ atL m (m.getD k (0, 0)).1 = (m.getD k (0, 0)).2 := by
  rw [List.getD, List.getElem?_eq_getElem hk]
  exact ⟨(h.2 _ (List.getElem_mem hk)).1, atL_mem h.1 (List.getElem_mem hk)⟩

theorem at_is {p : Option Nat} {m : List (Int × Int)} {x y : Int} {w : World} (h0 : 0 ≤ x ∧ x < 4096) (ha : atL m x = y) (hv : VW w p m) :
    Calls Try.prog 14 #[.agg #[.map p], .int .i64 x] w fun e w' => e = .returned (.int .i64 y) ∧ Below w.heap.size w w' := by
  refine (at_any p m x w (by omega) (by omega) hv).mono ?_
  rintro e w' ⟨rfl, rfl⟩
  exact ⟨by rw [ha], (Below.refl _ _).alloc (Nat.le_refl _) _⟩

theorem HasP.new (w : World) (x y : Int) : HasO (w.alloc (.cells #[.int .i64 x, .int .i64 y] 52)) w.heap.size x y := by
  refine ⟨⟨?_, ?_⟩, by simp⟩ <;> simp [go_sem]

set_option maxRecDepth 100000 in
set_option maxHeartbeats 1600000 in
theorem is_any (p : Option Nat) (mv : Value) (m : List (Int × Int)) (w : World) (hv : VW w p m) (hp : IsP w mv m) :
    Calls Try.prog 13 #[.agg #[.map p], mv] w fun e w' => e = .returned (.bool true) ∧ Below w.heap.size w w' := by
  have hl := ok_length hv.1
  have OM := Lib.hid hv.1
  have V1 := Lib.hid (hv.below ((Below.refl _ _).alloc (Nat.le_refl _) (.cells #[.map p] 28)))
  have P1 := Lib.hid (hp.below ((Below.refl _ _).alloc (Nat.le_refl _) (.cells #[.map p] 28)))
  have B1 := Lib.hid ((Below.refl w.heap.size w).alloc (Nat.le_refl _) (.cells #[.map p] 28))
  have hk1 : (w.alloc (.cells #[.map p] 28)).cell? ⟨w.heap.size, 0, none⟩ = some (.map p) := by simp [go_sem]
  have hs1 : w.heap.size < (w.alloc (.cells #[.map p] 28)).heap.size := by simp
  clear hv hp
  go_enter Try.func13, Try.ntmps13
  go_wp2_with fail
  generalize w.alloc (.cells #[.map p] 28) = w1 at *
  refine (locs_any p m _ V1.out).mono ?_
  rintro e w2 ⟨v, rfl, hown, -, hb2⟩
  obtain ⟨a, cap, rfl, hla⟩ := locs_at hown
  obtain ⟨a', cap', rfl, hpa⟩ := (P1.out.below hb2).at
  have V2 := Lib.hid (V1.out.below hb2)
  have B2 := Lib.hid (B1.out.trans (hb2.mono (by omega)))
  have hs2 : w.heap.size < w2.heap.size := Nat.lt_of_lt_of_le hs1 hb2.size
  have hk2 := Lib.hid ((hb2.cell (p := ⟨w.heap.size, 0, none⟩) hs1).trans hk1)
  have HL := Lib.hid hla
  have HP := Lib.hid hpa
  clear hla hpa hown hb2 P1 V1 hk1 hs1 B1
  generalize hbp : w.heap.size = bp at *
  have HBP := Lib.hid hbp
  clear hbp
  go_wp2_with fail
  go_loopw [17] (fun i wr => ∃ (k : Nat), k ≤ m.length ∧ i = .int .i64 k ∧ Below w2.heap.size w2 wr) (fun i _ => m.length - (intOf i).toNat)
  case atStart => exact ⟨0, by omega, rfl, Below.refl _ _⟩
  case round =>
    obtain ⟨k, hk, rfl, hnx⟩ := hrel
    have NX := Lib.hid hnx
    clear hnx
    by_cases hlt : k < m.length
    · obtain ⟨g, rfl, hg, c0⟩ := HL.out k hlt
      obtain ⟨g', rfl, hg', c1, c2⟩ := HP.out k hlt
      have c0 := (NX.out.cell hg).trans c0
      have c1 := (NX.out.cell hg').trans c1
      have c2 := (NX.out.cell hg').trans c2
      have c3 := (NX.out.cell (p := ⟨bp, 0, none⟩) hs2).trans hk2.out
      have V3 := Lib.hid (V2.out.below NX.out)
      have hsr : w2.heap.size ≤ wr.heap.size := NX.out.size
      obtain ⟨hx, hat⟩ := pair_at OM.out hlt
      generalize (m.getD k (0, 0)).1 = x at *
      generalize (m.getD k (0, 0)).2 = y at *
      have hlo : (0 : Int) ≤ (k : Int) := by omega
      have hhi : (k : Int) < (m.length : Int) := by omega
      go_wp2_with fail
      have q := (Below.refl _ _).alloc (a := wr) (Nat.le_refl _) (.cells #[.int .i64 x, .int .i64 y] 52)
      have o1 : HasO (wr.alloc (.cells #[.int .i64 x, .int .i64 y] 52)).drew wr.heap.size x y := HasP.new wr x y
      have d0 : (wr.alloc (.cells #[.int .i64 x, .int .i64 y] 52)).drew.cell? ⟨g, k, none⟩ = some (.int .i64 x) := (q.cell (p := ⟨g, k, none⟩) (by simp; omega)).trans c0
      have d3 : (wr.alloc (.cells #[.int .i64 x, .int .i64 y] 52)).drew.cell? ⟨bp, 0, none⟩ = some (.map p) := (q.cell (p := ⟨bp, 0, none⟩) (by simp; omega)).trans c3
      have V4 := Lib.hid (V3.out.below q.drew)
      have q2 := Lib.hid (q.drew)
      have hgs : g < (wr.alloc (.cells #[.int .i64 x, .int .i64 y] 52)).drew.heap.size := by simp; omega
      have hbs : bp < (wr.alloc (.cells #[.int .i64 x, .int .i64 y] 52)).drew.heap.size := by simp; omega
      clear c0 c1 c2 c3 q V3
      generalize wr.alloc (.cells #[.int .i64 x, .int .i64 y] 52) = W at *
      generalize wr.heap.size = bo at *
      obtain ⟨⟨k1, k2⟩, k3⟩ := o1
      go_region_held3 (fun w' => w'.cell? ⟨g, k, none⟩ = some (.int .i64 x) ∧ w'.cell? ⟨bp, 0, none⟩ = some (.map p) ∧ w'.cell? ⟨bo, 0, none⟩ = some (.int .i64 x) ∧ w'.cell? ⟨bo, 1, none⟩ = some (.int .i64 y))
        (first | exact ⟨d0, d3, k1, k2⟩ | exact e0)
        (first
          | (go_at_call 14; (with_reducible refine (at_is hx hat V4.out).mono ?_); rintro e w5 ⟨rfl, hb5⟩; have e0 := (⟨(hb5.cell (p := ⟨g, k, none⟩) hgs).trans d0, (hb5.cell (p := ⟨bp, 0, none⟩) hbs).trans d3, (hb5.cell (p := ⟨bo, 0, none⟩) k3).trans k1, (hb5.cell (p := ⟨bo, 1, none⟩) k3).trans k2⟩ : w5.cell? ⟨g, k, none⟩ = some (.int .i64 x) ∧ w5.cell? ⟨bp, 0, none⟩ = some (.map p) ∧ w5.cell? ⟨bo, 0, none⟩ = some (.int .i64 x) ∧ w5.cell? ⟨bo, 1, none⟩ = some (.int .i64 y))))
      have hb6 := Lib.hid ((NX.out.trans (q2.out.mono hsr)).trans (hb5.mono (by have := q2.out.size; omega)))
      clear d0 d3 k1 k2 k3 e0 hb5 q2 NX
      go_wp2
      go_roundw
      case rel => exact ⟨k + 1, by omega, by go_num, hb6.out⟩
      case measure => simp [intOf]; omega
    · go_wp2
      go_ret
      rw [HBP.out]
      exact ⟨rfl, B2.out.trans (NX.out.mono (by omega))⟩
end Go.Proofs.Ytapaimoahiplcaa
