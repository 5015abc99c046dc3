/- ref.Entry and ref.Unpack. -/
import Derived.Test.YtfegeahieajmkaaDoorDsPack
namespace Go.Proofs.YtfegeahieajmkaaDoor
open Go.ChangeShapes Go.WideShapes Go.ChangeAt Go.RowKit Go.Maps
set_option maxRecDepth 100000 in
set_option maxHeartbeats 1600000 in
theorem rentry_any (x : En) (w : World) : Calls Tryd.prog 28 #[enV x] w fun e w' => e = .returned (w3V (pw0 x) (pw1 x) (pw2 x)) ∧ Below w.heap.size w w' := by
  obtain ⟨a, ⟨v, n, r⟩, z, b⟩ := x
  unfold enV w3V pw0 pw1 pw2
  simp only
  cases b with
  | true =>
    go_enter Tryd.func28, Tryd.ntmps28
    go_wp2_with fail
    refine bodyPost_ret (v := .agg #[.int .i64 a, .int .u32 1, .int .u32 0, .int .i64 v, .int .u32 n, .int .u32 0, .int .i64 z, .int .u32 0, .int .u32 0]) (by simp [results, Tryd.results28, go_sem]) rfl ?_
    exact ⟨rfl, ((Below.refl _ _).alloc (Nat.le_refl _) _).alloc (by simp) _⟩
  | false =>
    go_enter Tryd.func28, Tryd.ntmps28
    go_wp2_with fail
    refine bodyPost_ret (v := .agg #[.int .i64 a, .int .u32 0, .int .u32 0, .int .i64 v, .int .u32 n, .int .u32 0, .int .i64 z, .int .u32 0, .int .u32 0]) (by simp [results, Tryd.results28, go_sem]) rfl ?_
    exact ⟨rfl, ((Below.refl _ _).alloc (Nat.le_refl _) _).alloc (by simp) _⟩
set_option maxRecDepth 100000 in
set_option maxHeartbeats 1600000 in
theorem runpack_any (x y z : Wd) (w : World) : Calls Tryd.prog 26 #[w3V x y z] w fun e w' => e = .returned (.tuple #[enV (unE x y z), .bool (isEnt x y z)]) ∧ Below w.heap.size w w' := by
  have PK := Lib.hid (rentry_any (entW x y z))
  have HD := Lib.hid (eq3_dec (pw0 (entW x y z)) (pw1 (entW x y z)) (pw2 (entW x y z)) x y z)
  obtain ⟨u, hu⟩ : ∃ u, isEnt x y z = u := ⟨_, rfl⟩
  have HU := Lib.hid hu
  unfold isEnt at HU
  rw [← HD.out] at HU
  unfold unE
  rw [hu]
  clear hu HD
  obtain ⟨x0, x1, x2⟩ := x
  obtain ⟨y0, y1, y2⟩ := y
  obtain ⟨z0, z1, z2⟩ := z
  unfold w3V pw0 pw1 pw2 entW enV at *
  simp only at *
  have Z : Hid (Below w.heap.size w ((w.alloc (.cells #[.int .i64 x0, .int .u32 x1, .int .u32 x2, .int .i64 y0, .int .u32 y1, .int .u32 y2, .int .i64 z0, .int .u32 z1, .int .u32 z2] 66)).alloc (.cells #[.int .i64 0, .int .i64 0, .int .u32 0, .int .u32 0, .int .i64 0, .bool false] 49))) := Lib.hid (((Below.refl _ _).alloc (Nat.le_refl _) _).alloc (by simp) _)
  by_cases h0 : x0 < 0
  · have e1 : u = false := by rw [← HU.out, decide_eq_false (by omega)]; rfl
    subst e1
    go_enter Tryd.func26, Tryd.ntmps26
    go_wp2_with fail
    exact bodyPost_ret (v := .tuple #[.agg #[.int .i64 0, .int .i64 0, .int .u32 0, .int .u32 0, .int .i64 0, .bool false], .bool false]) (by simp [results, Tryd.f26, go_sem]) rfl ⟨rfl, Z.out⟩
  by_cases h1 : 4096 ≤ x0
  · have e1 : u = false := by rw [← HU.out, decide_eq_false (by omega)]; rfl
    subst e1
    go_enter Tryd.func26, Tryd.ntmps26
    go_wp2_with fail
    exact bodyPost_ret (v := .tuple #[.agg #[.int .i64 0, .int .i64 0, .int .u32 0, .int .u32 0, .int .i64 0, .bool false], .bool false]) (by simp [results, Tryd.f26, go_sem]) rfl ⟨rfl, Z.out⟩
  by_cases h2 : 1 < x1
  · have e1 : u = false := by
      rw [← HU.out]
      have : (x1 == 1) = false := by rw [beq_eq_false_iff_ne]; omega
      rw [this]
      have h4 : ((0 : Int) == x1) = false := by rw [beq_eq_false_iff_ne]; omega
      simp [eq3, eqW, h4]
    subst e1
    go_enter Tryd.func26, Tryd.ntmps26
    go_wp2_with fail
    exact bodyPost_ret (v := .tuple #[.agg #[.int .i64 0, .int .i64 0, .int .u32 0, .int .u32 0, .int .i64 0, .bool false], .bool false]) (by simp [results, Tryd.f26, go_sem]) rfl ⟨rfl, Z.out⟩
  rw [decide_eq_true (show 0 ≤ x0 ∧ x0 < 4096 by omega), Bool.true_and] at HU
  obtain ⟨t, ht⟩ : ∃ t, (if (x1 == 1) = true then (1 : Int) else 0) = t := ⟨_, rfl⟩
  rw [ht] at HU PK
  have q3 := neq3
  have gP := guard3
  go_enter Tryd.func26, Tryd.ntmps26
  go_upto_region 4 with fail
  obtain ⟨q, hq⟩ : ∃ q, w.heap.size = q := ⟨_, rfl⟩
  have hW0 : ∃ W, ((w.alloc (.cells #[.int .i64 x0, .int .u32 x1, .int .u32 x2, .int .i64 y0, .int .u32 y1, .int .u32 y2, .int .i64 z0, .int .u32 z1, .int .u32 z2] 66)).alloc (.cells #[.int .i64 0, .int .i64 0, .int .u32 0, .int .u32 0, .int .i64 0, .bool false] 49)).alloc (.cells #[.int .i64 x0, .int .i64 y0, .int .u32 y1, .int .u32 0, .int .i64 z0, .bool (x1 == 1)] 49) = W := ⟨_, rfl⟩
  obtain ⟨W, hW⟩ := hW0
  have B1 : Hid (Box W q #[.int .i64 x0, .int .u32 x1, .int .u32 x2, .int .i64 y0, .int .u32 y1, .int .u32 y2, .int .i64 z0, .int .u32 z1, .int .u32 z2] 66) := Lib.hid (by rw [← hW]; exact ((Box.new w _ 66 hq.symm).alloc _).alloc _)
  have B2 : Hid (Box W (q + 1) #[.int .i64 0, .int .i64 0, .int .u32 0, .int .u32 0, .int .i64 0, .bool false] 49) := Lib.hid (by rw [← hW]; exact (Box.new _ _ 49 (by simp [hq])).alloc _)
  have B3 : Hid (Box W (q + 1 + 1) #[.int .i64 x0, .int .i64 y0, .int .u32 y1, .int .u32 0, .int .i64 z0, .bool (x1 == 1)] 49) := Lib.hid (by rw [← hW]; exact Box.new _ _ 49 (by simp [hq]))
  have BB : Hid (Below w.heap.size w W) := Lib.hid (by rw [← hW]; exact Z.out.alloc (by simp; omega) _)
  have LQ : w.heap.size ≤ q := by omega
  have Q0 := Lib.hid hq
  rw [hW, hq]
  clear hW hq Z
  have F0 : Hid (∀ W', Below W.heap.size W W' → (W'.cell? ⟨q + 1 + 1, 0, none⟩ = some (.int .i64 x0) ∧ W'.cell? ⟨q + 1 + 1, 1, none⟩ = some (.int .i64 y0) ∧ W'.cell? ⟨q + 1 + 1, 2, none⟩ = some (.int .u32 y1) ∧ W'.cell? ⟨q + 1 + 1, 3, none⟩ = some (.int .u32 0) ∧ W'.cell? ⟨q + 1 + 1, 4, none⟩ = some (.int .i64 z0) ∧ W'.cell? ⟨q + 1 + 1, 5, none⟩ = some (.bool (x1 == 1))) ∧ (W'.cell? ⟨q, 0, none⟩ = some (.int .i64 x0) ∧ W'.cell? ⟨q, 1, none⟩ = some (.int .u32 x1) ∧ W'.cell? ⟨q, 2, none⟩ = some (.int .u32 x2) ∧ W'.cell? ⟨q, 3, none⟩ = some (.int .i64 y0) ∧ W'.cell? ⟨q, 4, none⟩ = some (.int .u32 y1) ∧ W'.cell? ⟨q, 5, none⟩ = some (.int .u32 y2) ∧ W'.cell? ⟨q, 6, none⟩ = some (.int .i64 z0) ∧ W'.cell? ⟨q, 7, none⟩ = some (.int .u32 z1) ∧ W'.cell? ⟨q, 8, none⟩ = some (.int .u32 z2))) := Lib.hid (fun W' h => ⟨⟨(B3.out.below h).cell 0, (B3.out.below h).cell 1, (B3.out.below h).cell 2, (B3.out.below h).cell 3, (B3.out.below h).cell 4, (B3.out.below h).cell 5⟩, ⟨(B1.out.below h).cell 0, (B1.out.below h).cell 1, (B1.out.below h).cell 2, (B1.out.below h).cell 3, (B1.out.below h).cell 4, (B1.out.below h).cell 5, (B1.out.below h).cell 6, (B1.out.below h).cell 7, (B1.out.below h).cell 8⟩⟩)
  have D0 : Hid (Below W.heap.size W W.drew) := Lib.hid ((Below.refl _ _).drew)
  go_region_held3 (fun wz => (wz.cell? ⟨q + 1 + 1, 0, none⟩ = some (.int .i64 x0) ∧ wz.cell? ⟨q + 1 + 1, 1, none⟩ = some (.int .i64 y0) ∧ wz.cell? ⟨q + 1 + 1, 2, none⟩ = some (.int .u32 y1) ∧ wz.cell? ⟨q + 1 + 1, 3, none⟩ = some (.int .u32 0) ∧ wz.cell? ⟨q + 1 + 1, 4, none⟩ = some (.int .i64 z0) ∧ wz.cell? ⟨q + 1 + 1, 5, none⟩ = some (.bool (x1 == 1))) ∧ (wz.cell? ⟨q, 0, none⟩ = some (.int .i64 x0) ∧ wz.cell? ⟨q, 1, none⟩ = some (.int .u32 x1) ∧ wz.cell? ⟨q, 2, none⟩ = some (.int .u32 x2) ∧ wz.cell? ⟨q, 3, none⟩ = some (.int .i64 y0) ∧ wz.cell? ⟨q, 4, none⟩ = some (.int .u32 y1) ∧ wz.cell? ⟨q, 5, none⟩ = some (.int .u32 y2) ∧ wz.cell? ⟨q, 6, none⟩ = some (.int .i64 z0) ∧ wz.cell? ⟨q, 7, none⟩ = some (.int .u32 z1) ∧ wz.cell? ⟨q, 8, none⟩ = some (.int .u32 z2))) (exact F0.out _ D0.out)
    (first
      | (go_at_call 28; (with_reducible refine (PK.out _).mono ?_); rintro e w5 ⟨rfl, hb5⟩; replace D0 := Lib.hid (D0.out.trans (hb5.mono D0.out.size)); clear hb5))
  obtain ⟨⟨c0, c1, c2, c3, c4, c5⟩, d⟩ := F0.out _ D0.out
  have HB : Hid (Below w.heap.size w w5) := Lib.hid (BB.out.trans (D0.out.mono BB.out.size))
  have BX := Lib.hid (B2.out.below D0.out)
  clear d F0 D0 PK
  have k0 := BX.out.cell 0
  have k1 := BX.out.cell 1
  have k2 := BX.out.cell 2
  have k3 := BX.out.cell 3
  have k4 := BX.out.cell 4
  have k5 := BX.out.cell 5
  simp at k0 k1 k2 k3 k4 k5
  have f0 := BX.out.free 0
  have f1 := BX.out.free 1
  have f2 := BX.out.free 2
  have f3 := BX.out.free 3
  have f4 := BX.out.free 4
  have f5 := BX.out.free 5

  have l0 := BX.out.lt
  cases u with
  | true =>
    rw [HU.out, show (!true) = false from rfl]
    go_wp2_with fail
    replace BX : Hid (Box ((((((w5.setCell ⟨q + 1, 0, none⟩ (.int .i64 x0)).setCell ⟨q + 1, 1, none⟩ (.int .i64 y0)).setCell ⟨q + 1, 2, none⟩ (.int .u32 y1)).setCell ⟨q + 1, 3, none⟩ (.int .u32 0)).setCell ⟨q + 1, 4, none⟩ (.int .i64 z0)).setCell ⟨q + 1, 5, none⟩ (.bool (x1 == 1))) (q + 1) #[.int .i64 x0, .int .i64 y0, .int .u32 y1, .int .u32 0, .int .i64 z0, .bool (x1 == 1)] 49) := Lib.hid ((((((BX.out.set 0 _).set 1 _).set 2 _).set 3 _).set 4 _).set 5 _)
    replace HB : Hid (Below w.heap.size w ((((((w5.setCell ⟨q + 1, 0, none⟩ (.int .i64 x0)).setCell ⟨q + 1, 1, none⟩ (.int .i64 y0)).setCell ⟨q + 1, 2, none⟩ (.int .u32 y1)).setCell ⟨q + 1, 3, none⟩ (.int .u32 0)).setCell ⟨q + 1, 4, none⟩ (.int .i64 z0)).setCell ⟨q + 1, 5, none⟩ (.bool (x1 == 1)))) := Lib.hid ((((((HB.out.setCell (show w.heap.size ≤ q + 1 by omega) _).setCell (show w.heap.size ≤ q + 1 by omega) _).setCell (show w.heap.size ≤ q + 1 by omega) _).setCell (show w.heap.size ≤ q + 1 by omega) _).setCell (show w.heap.size ≤ q + 1 by omega) _).setCell (show w.heap.size ≤ q + 1 by omega) _)
    generalize ((((((w5.setCell ⟨q + 1, 0, none⟩ (.int .i64 x0)).setCell ⟨q + 1, 1, none⟩ (.int .i64 y0)).setCell ⟨q + 1, 2, none⟩ (.int .u32 y1)).setCell ⟨q + 1, 3, none⟩ (.int .u32 0)).setCell ⟨q + 1, 4, none⟩ (.int .i64 z0)).setCell ⟨q + 1, 5, none⟩ (.bool (x1 == 1))) = W6 at *
    clear k0 k1 k2 k3 k4 k5 f0 f1 f2 f3 f4 f5
    have k0 := BX.out.cell 0
    have k1 := BX.out.cell 1
    have k2 := BX.out.cell 2
    have k3 := BX.out.cell 3
    have k4 := BX.out.cell 4
    have k5 := BX.out.cell 5
    simp at k0 k1 k2 k3 k4 k5
    exact bodyPost_ret (v := .tuple #[.agg #[.int .i64 x0, .int .i64 y0, .int .u32 y1, .int .u32 0, .int .i64 z0, .bool (x1 == 1)], .bool true]) (by simp [results, Tryd.f26, go_sem, k0, k1, k2, k3, k4, k5]) rfl ⟨rfl, HB.out⟩
  | false =>
    rw [HU.out, show (!false) = true from rfl]
    go_wp2_with fail
    replace BX : Hid (Box ((((((w5.setCell ⟨q + 1, 0, none⟩ (.int .i64 0)).setCell ⟨q + 1, 1, none⟩ (.int .i64 0)).setCell ⟨q + 1, 2, none⟩ (.int .u32 0)).setCell ⟨q + 1, 3, none⟩ (.int .u32 0)).setCell ⟨q + 1, 4, none⟩ (.int .i64 0)).setCell ⟨q + 1, 5, none⟩ (.bool false)) (q + 1) #[.int .i64 0, .int .i64 0, .int .u32 0, .int .u32 0, .int .i64 0, .bool false] 49) := Lib.hid ((((((BX.out.set 0 _).set 1 _).set 2 _).set 3 _).set 4 _).set 5 _)
    replace HB : Hid (Below w.heap.size w ((((((w5.setCell ⟨q + 1, 0, none⟩ (.int .i64 0)).setCell ⟨q + 1, 1, none⟩ (.int .i64 0)).setCell ⟨q + 1, 2, none⟩ (.int .u32 0)).setCell ⟨q + 1, 3, none⟩ (.int .u32 0)).setCell ⟨q + 1, 4, none⟩ (.int .i64 0)).setCell ⟨q + 1, 5, none⟩ (.bool false))) := Lib.hid ((((((HB.out.setCell (show w.heap.size ≤ q + 1 by omega) _).setCell (show w.heap.size ≤ q + 1 by omega) _).setCell (show w.heap.size ≤ q + 1 by omega) _).setCell (show w.heap.size ≤ q + 1 by omega) _).setCell (show w.heap.size ≤ q + 1 by omega) _).setCell (show w.heap.size ≤ q + 1 by omega) _)
    generalize ((((((w5.setCell ⟨q + 1, 0, none⟩ (.int .i64 0)).setCell ⟨q + 1, 1, none⟩ (.int .i64 0)).setCell ⟨q + 1, 2, none⟩ (.int .u32 0)).setCell ⟨q + 1, 3, none⟩ (.int .u32 0)).setCell ⟨q + 1, 4, none⟩ (.int .i64 0)).setCell ⟨q + 1, 5, none⟩ (.bool false)) = W6 at *
    clear k0 k1 k2 k3 k4 k5 f0 f1 f2 f3 f4 f5
    have k0 := BX.out.cell 0
    have k1 := BX.out.cell 1
    have k2 := BX.out.cell 2
    have k3 := BX.out.cell 3
    have k4 := BX.out.cell 4
    have k5 := BX.out.cell 5
    simp at k0 k1 k2 k3 k4 k5
    refine bodyPost_ret (v := .tuple #[.agg #[.int .i64 0, .int .i64 0, .int .u32 0, .int .u32 0, .int .i64 0, .bool false], .bool false]) (by simp [results, Tryd.f26, go_sem, k0, k1, k2, k3, k4, k5]) rfl ⟨?_, HB.out⟩
    rfl
end Go.Proofs.YtfegeahieajmkaaDoor
