/- All of the reference: the use of every location. -/
import Derived.Test.YtgndlknlahglcaaDoorLayRows
namespace Go.Proofs.YtgndlknlahglcaaDoor
open Go.ChangeShapes Go.WideShapes Go.ChangeAt Go.RowKit Go.Maps

/-- The list so far. -/
structure OutIs (w : World) (T C B n : Nat) (ov : Value) (wr : World) : Prop where
  r : Row 35 w.heap.size wr ov (allN T C B n)
  b : Below w.heap.size w wr
theorem OutIs.more {w w1 : World} {T C B n m : Nat} {ov v' : Value} {l : List Pk} {W : World} (hW : Below w.heap.size w W) (hB : w.heap.size ≤ W.heap.size) (hown : W.ownsRow w.heap.size 35 3 ov n (flat (allN T C B n))) (h1 : w1.ownsRow w.heap.size 35 3 v' (n + l.length) (flat (allN T C B n) ++ flat l)) (hg : W.grownBy w1 ov.ownBlock) (hm : allN T C B n ++ l = allN T C B m) : OutIs w T C B m v' w1 := by
  refine ⟨?_, hW.grown hg hB (fun j hj => (hown.lt j hj).1)⟩
  rw [← hm]
  exact row_app h1 (by rw [allN_len])
theorem OutIs.row {w wr : World} {T C B n : Nat} {ov : Value} (h : OutIs w T C B n ov wr) : wr.ownsRow w.heap.size 35 3 ov n (flat (allN T C B n)) := by
  have := h.r
  unfold Row at this
  rw [allN_len] at this
  exact this
theorem OutIs.slice {w wr : World} {T C B n : Nat} {ov : Value} (h : OutIs w T C B n ov wr) : ∃ a cap, ov = .slice a n cap := by
  obtain ⟨_, ⟨e1, e2⟩ | ⟨g, cap, cur, e1, _⟩⟩ := h.row
  · exact ⟨none, 0, by rw [e1, e2]⟩
  · exact ⟨_, _, e1⟩
theorem OutIs.below {w wr W : World} {T C B n : Nat} {ov : Value} (h : OutIs w T C B n ov wr) (hb : Below wr.heap.size wr W) : OutIs w T C B n ov W := ⟨h.r.below hb, h.b.trans (hb.mono h.b.size)⟩
theorem LN.six {w W : World} {b : Nat} (h : LN w W b zer24) : (∀ j, j < 24 → W.cell? ⟨b, j, none⟩ = some (.int .i64 0)) ∧ ∀ j, W.frozen? ⟨b, j, none⟩ = false := by
  refine ⟨fun j hj => ?_, fun j => h.x.free j⟩
  rw [h.x.cell j]
  have : ∀ j, j < 24 → zer24[j]? = some (.int .i64 0) := by
    intro j hj
    unfold zer24
    rcases (show j = 0 ∨ j = 1 ∨ j = 2 ∨ j = 3 ∨ j = 4 ∨ j = 5 ∨ j = 6 ∨ j = 7 ∨ j = 8 ∨ j = 9 ∨ j = 10 ∨ j = 11 ∨ j = 12 ∨ j = 13 ∨ j = 14 ∨ j = 15 ∨ j = 16 ∨ j = 17 ∨ j = 18 ∨ j = 19 ∨ j = 20 ∨ j = 21 ∨ j = 22 ∨ j = 23 by omega) with rfl | rfl | rfl | rfl | rfl | rfl | rfl | rfl | rfl | rfl | rfl | rfl | rfl | rfl | rfl | rfl | rfl | rfl | rfl | rfl | rfl | rfl | rfl | rfl <;> rfl
  exact this j hj
def two (p q : Pk) : Array Value := (((((zer24.setIfInBounds 0 (.int .i64 p.1)).setIfInBounds 1 (.int .i64 p.2.1)).setIfInBounds 2 (.int .i64 p.2.2)).setIfInBounds 3 (.int .i64 q.1)).setIfInBounds 4 (.int .i64 q.2.1)).setIfInBounds 5 (.int .i64 q.2.2)
theorem two_flat (p q : Pk) : (two p q).toList = flat [p, q, zPk, zPk, zPk, zPk, zPk, zPk] := rfl
theorem LN.two {w W : World} {b : Nat} (h : LN w W b zer24) (p q : Pk) : LN w ((((((W.setCell ⟨b, 0, none⟩ (.int .i64 p.1)).setCell ⟨b, 1, none⟩ (.int .i64 p.2.1)).setCell ⟨b, 2, none⟩ (.int .i64 p.2.2)).setCell ⟨b, 3, none⟩ (.int .i64 q.1)).setCell ⟨b, 4, none⟩ (.int .i64 q.2.1)).setCell ⟨b, 5, none⟩ (.int .i64 q.2.2)) b (two p q) :=
  (((((h.set 0 _).set 1 _).set 2 _).set 3 _).set 4 _).set 5 _
def lenOf : Value → Nat
  | .slice _ n _ => n
  | _ => 0
theorem kAnn' (T C B t : Nat) (h : t < T) : allN T C B (8 + 8 * t) ++ ([(3, (t : Int) + 1, 0), (4, (t : Int) + 1, 0), zPk, zPk, zPk, zPk, zPk, zPk] : List Pk) = allN T C B (8 + 8 * (t + 1)) := kAnn T C B t h
theorem kRec' (T C B t : Nat) (h : t < T) : allN T C B (8 + 8 * T + 8 * t) ++ ([(5, (t : Int) + 1, 0), (5, (t : Int) + 1, 1), (5, (t : Int) + 1, 2), zPk, zPk, zPk, zPk, zPk] : List Pk) = allN T C B (8 + 8 * T + 8 * (t + 1)) := kRec T C B t h
def three (t : Int) : Array Value := ((((((((zer24.setIfInBounds 0 (.int .i64 5)).setIfInBounds 1 (.int .i64 t)).setIfInBounds 2 (.int .i64 0)).setIfInBounds 3 (.int .i64 5)).setIfInBounds 4 (.int .i64 t)).setIfInBounds 5 (.int .i64 1)).setIfInBounds 6 (.int .i64 5)).setIfInBounds 7 (.int .i64 t)).setIfInBounds 8 (.int .i64 2)
theorem three_flat (t : Int) : (three t).toList = flat [(5, t, 0), (5, t, 1), (5, t, 2), zPk, zPk, zPk, zPk, zPk] := rfl
theorem LN.three {w W : World} {b : Nat} (h : LN w W b zer24) (t : Int) : LN w (((((((((W.setCell ⟨b, 0, none⟩ (.int .i64 5)).setCell ⟨b, 1, none⟩ (.int .i64 t)).setCell ⟨b, 2, none⟩ (.int .i64 0)).setCell ⟨b, 3, none⟩ (.int .i64 5)).setCell ⟨b, 4, none⟩ (.int .i64 t)).setCell ⟨b, 5, none⟩ (.int .i64 1)).setCell ⟨b, 6, none⟩ (.int .i64 5)).setCell ⟨b, 7, none⟩ (.int .i64 t)).setCell ⟨b, 8, none⟩ (.int .i64 2)) b (three t) :=
  ((((((((h.set 0 _).set 1 _).set 2 _).set 3 _).set 4 _).set 5 _).set 6 _).set 7 _).set 8 _
set_option maxRecDepth 100000 in
set_option maxHeartbeats 4000000 in
theorem all_any (T C B : Nat) (w : World) (hi : In T C B) : Calls Tryd.prog 30 #[.int .i64 T, .int .i64 C, .int .i64 B] w fun e w' => ∃ v, e = .returned v ∧ OutIs w T C B (startL T C B 7) v w' := by
  obtain ⟨i0, hi0, hz0, hz1, hz2⟩ := info_parts infoK
  obtain ⟨q1, q2, q3, q4, q5⟩ := hi
  go_enter Tryd.func30, Tryd.ntmps30
  go_wp2_with fail
  refine (line_any _).mono ?_
  rintro e w1 ⟨rfl, hl⟩
  have L := Lib.hid (hl.two (1, 0, 0) (2, 0, 0))
  have hz := hl.six
  have c0 := hz.1 0 (by omega)
  have c1 := hz.1 1 (by omega)
  have c2 := hz.1 2 (by omega)
  have c3 := hz.1 3 (by omega)
  have c4 := hz.1 4 (by omega)
  have c5 := hz.1 5 (by omega)
  have f0 := hz.2 0
  have f1 := hz.2 1
  have f2 := hz.2 2
  have f3 := hz.2 3
  have f4 := hz.2 4
  have f5 := hz.2 5
  clear hz hl
  go_wp2_with fail
  have O : Hid (OutIs w T C B (8 + 8 * 0) (.slice (some ⟨w.heap.size, 0, none⟩) 8 8) ((((((w1.setCell ⟨w.heap.size, 0, none⟩ (.int .i64 1)).setCell ⟨w.heap.size, 1, none⟩ (.int .i64 0)).setCell ⟨w.heap.size, 2, none⟩ (.int .i64 0)).setCell ⟨w.heap.size, 3, none⟩ (.int .i64 2)).setCell ⟨w.heap.size, 4, none⟩ (.int .i64 0)).setCell ⟨w.heap.size, 5, none⟩ (.int .i64 0))) := Lib.hid ⟨by rw [show 8 + 8 * 0 = 8 from rfl, k0]; exact Row.ofBox (L := [(1, 0, 0), (2, 0, 0), zPk, zPk, zPk, zPk, zPk, zPk]) L.out.x (Nat.le_refl _) (two_flat _ _) (by decide), L.out.bl⟩
  clear c0 c1 c2 c3 c4 c5 f0 f1 f2 f3 f4 f5 L
  generalize ((((((w1.setCell ⟨w.heap.size, 0, none⟩ (.int .i64 1)).setCell ⟨w.heap.size, 1, none⟩ (.int .i64 0)).setCell ⟨w.heap.size, 2, none⟩ (.int .i64 0)).setCell ⟨w.heap.size, 3, none⟩ (.int .i64 2)).setCell ⟨w.heap.size, 4, none⟩ (.int .i64 0)).setCell ⟨w.heap.size, 5, none⟩ (.int .i64 0)) = W1 at *
  go_loopw [7, 8] (fun ov tv wr => ∃ k : Nat, k ≤ T ∧ tv = .int .i64 ((k : Int) + 1) ∧ OutIs w T C B (8 + 8 * k) ov wr) (fun _ tv _ => T + 1 - (intOf tv).toNat)
  case atStart => exact ⟨0, by omega, rfl, O.out⟩
  case round =>
    clear O W1 w1
    obtain ⟨k, hk, rfl, ho⟩ := hrel
    obtain ⟨oa, oc, rfl⟩ := ho.slice
    have O := Lib.hid ho
    clear ho
    by_cases hlt : k < T
    · go_wp2_with fail
      refine (line_any _).mono ?_
      rintro e w1 ⟨rfl, hl⟩
      have L := Lib.hid (hl.two (3, ((k : Int) + 1), 0) (4, ((k : Int) + 1), 0))
      have hz := hl.six
      have c0 := hz.1 0 (by omega)
      have c1 := hz.1 1 (by omega)
      have c2 := hz.1 2 (by omega)
      have c3 := hz.1 3 (by omega)
      have c4 := hz.1 4 (by omega)
      have c5 := hz.1 5 (by omega)
      have f0 := hz.2 0
      have f1 := hz.2 1
      have f2 := hz.2 2
      have f3 := hz.2 3
      have f4 := hz.2 4
      have f5 := hz.2 5
      clear hz hl
      go_wp2_with (first | (at_builtin; refine wpList_append_own _ rfl (.tmp 40) (.tmp 41) 29 rfl w.heap.size 35 i0 (.agg #[.int .i64 0, .int .i64 0, .int .i64 0]) 3 24 Tryd.underlying29 hi0 hz0 hz1 hz2 rfl (by decide) _ _ _ rfl (O.out.below L.out.bl).row ⟨wr.heap.size, 0, none⟩ 8 8 (flat [(3, ((k : Int) + 1), 0), (4, ((k : Int) + 1), 0), zPk, zPk, zPk, zPk, zPk, zPk]) rfl rfl (L.out.cells (two_flat _ _)) (flat_one _) (by unfold maxLen; omega) (by omega) (Nat.le_trans O.out.b.size L.out.bl.size) ?_; intro v' w2 hown' hgrow _; have O2 := Lib.hid (OutIs.more (m := 8 + 8 * (k + 1)) (l := [(3, ((k : Int) + 1), 0), (4, ((k : Int) + 1), 0), zPk, zPk, zPk, zPk, zPk, zPk]) (O.out.below L.out.bl).b (O.out.below L.out.bl).b.size (O.out.below L.out.bl).row hown' hgrow (kAnn' T C B k hlt)); clear hown' hgrow))
      go_roundw
      case rel => exact ⟨k + 1, by omega, by go_num, O2.out⟩
      case measure => simp [intOf]; omega
    have e : 8 + 8 * k = 8 + 8 * T + 8 * 0 := by omega
    go_wp2_with fail
    clear hlt hk
    go_loopw [7, 10] (fun ov tv wr => ∃ k : Nat, k ≤ T ∧ tv = .int .i64 ((k : Int) + 1) ∧ OutIs w T C B (8 + 8 * T + 8 * k) ov wr) (fun _ tv _ => T + 1 - (intOf tv).toNat)
    case atStart => exact ⟨0, by omega, rfl, by rw [← e]; exact O.out⟩
    case round =>
      clear O e
      obtain ⟨k, hk, rfl, ho⟩ := hrel
      obtain ⟨oa, oc, rfl⟩ := ho.slice
      have O := Lib.hid ho
      clear ho
      by_cases hlt : k < T
      · go_wp2_with fail
        refine (line_any _).mono ?_
        rintro e w1 ⟨rfl, hl⟩
        have L := Lib.hid (hl.three ((k : Int) + 1))
        have hz := hl.six
        have c0 := hz.1 0 (by omega)
        have c1 := hz.1 1 (by omega)
        have c2 := hz.1 2 (by omega)
        have c3 := hz.1 3 (by omega)
        have c4 := hz.1 4 (by omega)
        have c5 := hz.1 5 (by omega)
        have c6 := hz.1 6 (by omega)
        have c7 := hz.1 7 (by omega)
        have c8 := hz.1 8 (by omega)
        have f0 := hz.2 0
        have f1 := hz.2 1
        have f2 := hz.2 2
        have f3 := hz.2 3
        have f4 := hz.2 4
        have f5 := hz.2 5
        have f6 := hz.2 6
        have f7 := hz.2 7
        have f8 := hz.2 8
        clear hz hl
        go_wp2_with fail
        refine wp_loop_rounds 4 ?_
        rw [rounds_succ]
        go_wp2_with fail
        rw [rounds_succ]
        go_wp2_with fail
        rw [rounds_succ]
        go_wp2_with fail
        rw [rounds_succ]
        go_wp2_with (first | (at_builtin; refine wpList_append_own _ rfl (.tmp 59) (.tmp 60) 29 rfl w.heap.size 35 i0 (.agg #[.int .i64 0, .int .i64 0, .int .i64 0]) 3 24 Tryd.underlying29 hi0 hz0 hz1 hz2 rfl (by decide) _ _ _ rfl (O.out.below L.out.bl).row ⟨wr.heap.size, 0, none⟩ 8 8 (flat [(5, ((k : Int) + 1), 0), (5, ((k : Int) + 1), 1), (5, ((k : Int) + 1), 2), zPk, zPk, zPk, zPk, zPk]) rfl rfl (L.out.cells (three_flat _)) (flat_one _) (by unfold maxLen; omega) (by omega) (Nat.le_trans O.out.b.size L.out.bl.size) ?_; intro v' w2 hown' hgrow _; have O2 := Lib.hid (OutIs.more (m := 8 + 8 * T + 8 * (k + 1)) (l := [(5, ((k : Int) + 1), 0), (5, ((k : Int) + 1), 1), (5, ((k : Int) + 1), 2), zPk, zPk, zPk, zPk, zPk]) (O.out.below L.out.bl).b (O.out.below L.out.bl).b.size (O.out.below L.out.bl).row hown' hgrow (kRec' T C B k hlt)); clear hown' hgrow))
        go_roundw
        case rel => exact ⟨k + 1, by omega, by go_num, O2.out⟩
        case measure => simp [intOf]; omega
      have e : 8 + 8 * T + 8 * k = 8 + 16 * T + 0 := by omega
      go_wp2_with fail
      clear hlt hk
      go_loopw [7, 13] (fun ov tv wr => ∃ k : Nat, k ≤ C ∧ tv = .int .i64 k ∧ OutIs w T C B (8 + 16 * T + k) ov wr) (fun _ tv _ => C - (intOf tv).toNat)
      case atStart => exact ⟨0, by omega, rfl, by rw [← e]; exact O.out⟩
      case round =>
        clear O e
        obtain ⟨k, hk, rfl, ho⟩ := hrel
        obtain ⟨oa, oc, rfl⟩ := ho.slice
        have O := Lib.hid ho
        clear ho
        by_cases hlt : k < C
        · go_wp2_with (first | (at_builtin; refine wpList_append_own _ rfl (.tmp 67) (.tmp 70) 29 rfl w.heap.size 35 i0 (.agg #[.int .i64 0, .int .i64 0, .int .i64 0]) 3 24 Tryd.underlying29 hi0 hz0 hz1 hz2 rfl (by decide) _ _ _ rfl (O.out.below (below1 _ _)).row ⟨wr.heap.size, 0, none⟩ 1 1 [.int .i64 (6), .int .i64 ((k : Int)), .int .i64 (0)] rfl rfl (tri_new' _ _ _ _ _ rfl) (tri_one _ _ _) (by unfold maxLen; omega) (by omega) (O.out.below (below1 _ _)).b.size ?_; intro v' w2 hown' hgrow _; have O2 := Lib.hid (OutIs.more (m := 8 + 16 * T + (k + 1)) (l := [(6, (k : Int), 0)]) (O.out.below (below1 _ _)).b (O.out.below (below1 _ _)).b.size (O.out.below (below1 _ _)).row hown' hgrow (kOne T C B _ _ (kCell T C B k hlt))); clear hown' hgrow))
          go_roundw
          case rel => exact ⟨k + 1, by omega, by go_num, O2.out⟩
          case measure => simp [intOf]; omega
        have e : 8 + 16 * T + k = 8 + 16 * T + C := by omega
        go_wp2_with fail
        clear hlt hk
        have HS := Lib.hid (starts T C B)
        go_loopw [7] (fun ov wr => ∃ n : Nat, 8 + 16 * T + C ≤ n ∧ n ≤ 8 + 16 * T + (C + 7) / 8 * 8 ∧ OutIs w T C B n ov wr) (fun ov _ => 8 + 16 * T + (C + 7) / 8 * 8 - lenOf ov)
        case atStart => exact ⟨8 + 16 * T + k, by omega, by omega, O.out⟩
        case round =>
          clear O e
          obtain ⟨n, hn1, hn2, ho⟩ := hrel
          obtain ⟨oa, oc, rfl⟩ := ho.slice
          have O := Lib.hid ho
          clear ho
          have ht : (n : Int).tmod 8 = (n : Int) % 8 := Int.tmod_eq_emod_of_nonneg (by omega)
          by_cases hlt : n % 8 = 0
          · have hm : ((n : Int) % 8 != 0) = false := by rw [bne_eq_false_iff_eq]; omega
            have e : Hid (n = startL T C B 4 + 104 * 0) := Lib.hid (by have := HS.out; omega)
            go_wp2_with fail
            clear hlt hm ht hn1 hn2
            go_loopw [7, 14] (fun ov tv wr => ∃ k : Nat, k ≤ T ∧ tv = .int .i64 ((k : Int) + 1) ∧ OutIs w T C B (startL T C B 4 + 104 * k) ov wr) (fun _ tv _ => T + 1 - (intOf tv).toNat)
            case atStart => exact ⟨0, by omega, rfl, by rw [← e.out]; exact O.out⟩
            case round =>
              clear O e
              obtain ⟨k, hk, rfl, ho⟩ := hrel
              obtain ⟨oa, oc, rfl⟩ := ho.slice
              have O := Lib.hid ho
              clear ho
              by_cases hlt : k < T
              · go_wp2_with fail
                have hd : decide ((k : Int) + 1 ≤ (T : Int)) = true := decide_eq_true (by omega)
                rw [hd]
                clear hd
                go_loopw [7, 15] (fun ov tv wr => ∃ i : Nat, i ≤ 104 ∧ tv = .int .i64 i ∧ OutIs w T C B (startL T C B 4 + 104 * k + i) ov wr) (fun _ tv _ => 104 - (intOf tv).toNat)
                case atStart => exact ⟨0, by omega, rfl, O.out⟩
                case round =>
                  clear O
                  obtain ⟨i, hi, rfl, ho⟩ := hrel
                  obtain ⟨oa, oc, rfl⟩ := ho.slice
                  have O := Lib.hid ho
                  have hs4 : startL T C B 4 ≤ 5200 := by have := HS.out; omega
                  clear ho
                  by_cases hil : i < 104
                  · go_wp2_with (first | (at_builtin; refine wpList_append_own _ rfl (.tmp 89) (.tmp 93) 29 rfl w.heap.size 35 i0 (.agg #[.int .i64 0, .int .i64 0, .int .i64 0]) 3 24 Tryd.underlying29 hi0 hz0 hz1 hz2 rfl (by decide) _ _ _ rfl (O.out.below (below1 _ _)).row ⟨wr.heap.size, 0, none⟩ 1 1 [.int .i64 (7), .int .i64 ((k : Int) + 1), .int .i64 ((i : Int))] rfl rfl (tri_new' _ _ _ _ _ rfl) (tri_one _ _ _) (by unfold maxLen; omega) (by omega) (O.out.below (below1 _ _)).b.size ?_; intro v' w2 hown' hgrow _; have O2 := Lib.hid (OutIs.more (m := startL T C B 4 + 104 * k + (i + 1)) (l := [(7, (k : Int) + 1, (i : Int))]) (O.out.below (below1 _ _)).b (O.out.below (below1 _ _)).b.size (O.out.below (below1 _ _)).row hown' hgrow (kOne T C B _ _ (kSlot T C B k i hlt hil))); clear hown' hgrow))
                    go_roundw
                    case rel => exact ⟨i + 1, by omega, by go_num, O2.out⟩
                    case measure => simp [intOf]; omega
                  · have e : startL T C B 4 + 104 * k + i = startL T C B 4 + 104 * (k + 1) := by omega
                    go_wp2_with fail
                    go_roundw
                    case rel => exact ⟨k + 1, by omega, by go_num, by rw [← e]; exact O.out⟩
                    case measure => simp [intOf]; omega
              · have e : Hid (startL T C B 4 + 104 * k = startL T C B 5) := Lib.hid (by have := HS.out; omega)
                have hs4 : startL T C B 4 ≤ 5200 := by have := HS.out; omega
                by_cases hB : 0 < B
                · have hB' : (0 : Int) < B := by omega
                  go_wp2_with fail
                  refine (line_any _).mono ?_
                  rintro e1 w1 ⟨rfl, hl⟩
                  have KB : Hid (allN T C B (startL T C B 4 + 104 * k) ++ [(8, 0, 0), (8, 1, 0), zPk, zPk, zPk, zPk, zPk, zPk] = allN T C B (startL T C B 6)) := Lib.hid (by rw [e.out]; exact kBits T C B hB)
                  have L := Lib.hid (hl.two (8, 0, 0) (8, 1, 0))
                  have hz := hl.six
                  have c0 := hz.1 0 (by omega)
                  have c1 := hz.1 1 (by omega)
                  have c2 := hz.1 2 (by omega)
                  have c3 := hz.1 3 (by omega)
                  have c4 := hz.1 4 (by omega)
                  have c5 := hz.1 5 (by omega)
                  have f0 := hz.2 0
                  have f1 := hz.2 1
                  have f2 := hz.2 2
                  have f3 := hz.2 3
                  have f4 := hz.2 4
                  have f5 := hz.2 5
                  clear hz hl
                  go_wp2_with (first | (at_builtin; refine wpList_append_own _ rfl (.tmp 104) (.tmp 105) 29 rfl w.heap.size 35 i0 (.agg #[.int .i64 0, .int .i64 0, .int .i64 0]) 3 24 Tryd.underlying29 hi0 hz0 hz1 hz2 rfl (by decide) _ _ _ rfl (O.out.below L.out.bl).row ⟨wr.heap.size, 0, none⟩ 8 8 (flat [(8, 0, 0), (8, 1, 0), zPk, zPk, zPk, zPk, zPk, zPk]) rfl rfl (L.out.cells (two_flat _ _)) (flat_one _) (by unfold maxLen; omega) (by omega) (Nat.le_trans O.out.b.size L.out.bl.size) ?_; intro v' w2 hown' hgrow _; have O2 := Lib.hid (OutIs.more (m := startL T C B 6) (l := [(8, 0, 0), (8, 1, 0), zPk, zPk, zPk, zPk, zPk, zPk]) (O.out.below L.out.bl).b (O.out.below L.out.bl).b.size (O.out.below L.out.bl).row hown' hgrow (KB.out)); clear hown' hgrow))
                  clear c0 c1 c2 c3 c4 c5 f0 f1 f2 f3 f4 f5 L O
                  obtain ⟨va, vc, rfl⟩ := O2.out.slice
                  go_loopw [7, 17] (fun ov tv wr => ∃ k : Nat, k ≤ B ∧ tv = .int .i64 k ∧ OutIs w T C B (startL T C B 6 + 32 * k) ov wr) (fun _ tv _ => B - (intOf tv).toNat)
                  case atStart => exact ⟨0, by omega, rfl, O2.out⟩
                  case round =>
                    clear O2 e hlt hk
                    obtain ⟨k, hk, rfl, ho⟩ := hrel
                    obtain ⟨oa, oc, rfl⟩ := ho.slice
                    have O := Lib.hid ho
                    clear ho
                    have hs6 : startL T C B 6 ≤ 5200 := by have := HS.out; omega
                    by_cases hlt : k < B
                    · go_wp2_with fail
                      go_loopw [7, 18] (fun ov tv wr => ∃ i : Nat, i ≤ 32 ∧ tv = .int .i64 i ∧ OutIs w T C B (startL T C B 6 + 32 * k + i) ov wr) (fun _ tv _ => 32 - (intOf tv).toNat)
                      case atStart => exact ⟨0, by omega, rfl, O.out⟩
                      case round =>
                        clear O
                        obtain ⟨i, hi, rfl, ho⟩ := hrel
                        obtain ⟨oa, oc, rfl⟩ := ho.slice
                        have O := Lib.hid ho
                        clear ho
                        by_cases hil : i < 32
                        · go_wp2_with (first | (at_builtin; refine wpList_append_own _ rfl (.tmp 116) (.tmp 120) 29 rfl w.heap.size 35 i0 (.agg #[.int .i64 0, .int .i64 0, .int .i64 0]) 3 24 Tryd.underlying29 hi0 hz0 hz1 hz2 rfl (by decide) _ _ _ rfl (O.out.below (below1 _ _)).row ⟨wr.heap.size, 0, none⟩ 1 1 [.int .i64 (9), .int .i64 ((k : Int)), .int .i64 ((i : Int))] rfl rfl (tri_new' _ _ _ _ _ rfl) (tri_one _ _ _) (by unfold maxLen; omega) (by omega) (O.out.below (below1 _ _)).b.size ?_; intro v' w2 hown' hgrow _; have O2 := Lib.hid (OutIs.more (m := startL T C B 6 + 32 * k + (i + 1)) (l := [(9, (k : Int), (i : Int))]) (O.out.below (below1 _ _)).b (O.out.below (below1 _ _)).b.size (O.out.below (below1 _ _)).row hown' hgrow (kOne T C B _ _ (kBlock T C B k i hlt hil))); clear hown' hgrow))
                          go_roundw
                          case rel => exact ⟨i + 1, by omega, by go_num, O2.out⟩
                          case measure => simp [intOf]; omega
                        · have e : startL T C B 6 + 32 * k + i = startL T C B 6 + 32 * (k + 1) := by omega
                          go_wp2_with fail
                          go_roundw
                          case rel => exact ⟨k + 1, by omega, by go_num, by rw [← e]; exact O.out⟩
                          case measure => simp [intOf]; omega
                    · have e : Hid (startL T C B 6 + 32 * k = startL T C B 7) := Lib.hid (by have := HS.out; omega)
                      go_wp2_with fail
                      go_ret
                      exact ⟨_, rfl, e.out ▸ O.out⟩
                · have hB' : ¬ (0 : Int) < B := by omega
                  have e7 : Hid (startL T C B 4 + 104 * k = startL T C B 7) := Lib.hid (by have := HS.out; omega)
                  go_wp2_with fail
                  refine wp_loop_rounds 1 ?_
                  rw [rounds_succ]
                  go_wp2_with fail
                  go_ret
                  exact ⟨_, rfl, e7.out ▸ O.out⟩
          · have hm : ((n : Int) % 8 != 0) = true := by rw [bne_iff_ne]; omega
            go_wp2_with (first | (at_builtin; refine wpList_append_own _ rfl (.tmp 76) (.tmp 78) 29 rfl w.heap.size 35 i0 (.agg #[.int .i64 0, .int .i64 0, .int .i64 0]) 3 24 Tryd.underlying29 hi0 hz0 hz1 hz2 rfl (by decide) _ _ _ rfl (O.out.below (below1 _ _)).row ⟨wr.heap.size, 0, none⟩ 1 1 [.int .i64 (0), .int .i64 (0), .int .i64 (0)] rfl rfl (tri_new' _ _ _ _ _ rfl) (tri_one _ _ _) (by unfold maxLen; omega) (by omega) (O.out.below (below1 _ _)).b.size ?_; intro v' w2 hown' hgrow _; have O2 := Lib.hid (OutIs.more (m := n + 1) (l := [(0, 0, 0)]) (O.out.below (below1 _ _)).b (O.out.below (below1 _ _)).b.size (O.out.below (below1 _ _)).row hown' hgrow (kOne T C B _ _ (kPad T C B n hn1 (by omega)))); clear hown' hgrow))
            obtain ⟨va, vc, rfl⟩ := O2.out.slice
            go_roundw
            case rel => exact ⟨n + 1, by omega, by omega, O2.out⟩
            case measure => simp [lenOf]; omega
end Go.Proofs.YtgndlknlahglcaaDoor
