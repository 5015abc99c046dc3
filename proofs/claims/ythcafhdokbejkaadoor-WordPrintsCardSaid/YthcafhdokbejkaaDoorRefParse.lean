/- The reference's Parse. -/
import Derived.Test.YthcafhdokbejkaaDoorDigits
import Derived.Deep.DeepCutAuto
namespace Go.Proofs.YthcafhdokbejkaaDoor
open Go.ChangeShapes Go.WideShapes Go.ChangeAt Go.RowKit
set_option linter.unusedVariables false
/-- The result's box, the word's box behind it. -/
structure RI (w : World) (B : Nat) (v n r : Int) (W : World) : Prop where
  h0 : W.heap[B]? = some (.cells #[.int .i64 0, .int .u32 0, .int .u32 0] 33 (0, 0))
  h1 : W.heap[B + 1]? = some (.cells #[.int .i64 v, .int .u32 n, .int .u32 r] 33 (0, 0))
  g : Below B w W
theorem RI.l {w W : World} {B : Nat} {v n r : Int} (h : RI w B v n r W) : B + 1 < W.heap.size := lt_of_block h.h1
theorem RI.below {w W W' : World} {B : Nat} {v n r : Int} (h : RI w B v n r W) (hb : Below W.heap.size W W') : RI w B v n r W' :=
  ⟨(hb.block _ (by have := h.l; omega)).trans h.h0, (hb.block _ h.l).trans h.h1, h.g.trans (hb.mono (by have := h.l; omega))⟩
theorem RI.new (w : World) : RI w w.heap.size 0 0 0 ((w.alloc (.cells #[.int .i64 0, .int .u32 0, .int .u32 0] 33)).alloc (.cells #[.int .i64 0, .int .u32 0, .int .u32 0] 33)) := by
  have b1 := heap_alloc_new w (.cells #[.int .i64 0, .int .u32 0, .int .u32 0] 33)
  have q1 := (Below.refl _ _).alloc (Nat.le_refl _) (a := w) (.cells #[.int .i64 0, .int .u32 0, .int .u32 0] 33)
  have z1 : (w.alloc (.cells #[.int .i64 0, .int .u32 0, .int .u32 0] 33)).heap.size = w.heap.size + 1 := by simp
  generalize w.alloc (.cells #[.int .i64 0, .int .u32 0, .int .u32 0] 33) = w1 at *
  have b2 := heap_alloc_new w1 (.cells #[.int .i64 0, .int .u32 0, .int .u32 0] 33)
  have q2 := (Below.refl _ _).alloc (Nat.le_refl _) (a := w1) (.cells #[.int .i64 0, .int .u32 0, .int .u32 0] 33)
  rw [z1] at b2
  exact ⟨(q2.block _ (by omega)).trans b1, b2, q1.trans (q2.mono (by omega))⟩
theorem RI.set0 {w W : World} {B : Nat} {v n r : Int} (h : RI w B v n r W) (x : Int) : RI w B x n r (W.setCell ⟨B + 1, 0, none⟩ (.int .i64 x)) :=
  ⟨(Below.heap_setCell _ _ _ _ (by simp)).trans h.h0, set_three h.h1 0 (by omega), h.g.setCell (by simp) _⟩
theorem RI.set1 {w W : World} {B : Nat} {v n r : Int} (h : RI w B v n r W) (x : Int) : RI w B v x r (W.setCell ⟨B + 1, 1, none⟩ (.int .u32 x)) :=
  ⟨(Below.heap_setCell _ _ _ _ (by simp)).trans h.h0, set_three h.h1 1 (by omega), h.g.setCell (by simp) _⟩
theorem RI.set2 {w W : World} {B : Nat} {v n r : Int} (h : RI w B v n r W) (x : Int) : RI w B v n x (W.setCell ⟨B + 1, 2, none⟩ (.int .u32 x)) :=
  ⟨(Below.heap_setCell _ _ _ _ (by simp)).trans h.h0, set_three h.h1 2 (by omega), h.g.setCell (by simp) _⟩
def NoPost (w : World) (e : Ending) (w' : World) : Prop := e = .returned (.tuple #[.agg #[.int .i64 0, .int .u32 0, .int .u32 0], .bool false]) ∧ Below w.heap.size w w'
theorem dig_bd {s : ByteArray} {M a : Nat} {n i : Int} (h : Dig (s.data.toList.drop a) M a n i) (ha : a ≤ s.size) : (n = 0 ∧ i = -1) ∨ ∃ m p : Nat, n = (m : Int) ∧ m ≤ M ∧ i = (p : Int) ∧ a < p ∧ p ≤ s.size := by
  rcases h with ⟨k, hk, hR, rfl, hm, rfl⟩ | ⟨h1, h2, -⟩
  · refine .inr ⟨_, a + k, rfl, hm, by omega, by omega, ?_⟩
    have := hR.le
    rw [List.length_drop] at this
    have h2 : s.data.toList.length = s.size := by simp
    omega
  · exact .inl ⟨h1, h2⟩
set_option maxRecDepth 100000 in
set_option maxHeartbeats 3200000 in
theorem rparse_no (s : ByteArray) (w : World) (hs : s.size ≤ 300) (hno : ∀ v n r, (-9223372036854775808 ≤ v ∧ v ≤ 9223372036854775807) → (0 ≤ n ∧ n < 4294967296) → (r = 0 ∨ Good r) → textOf v n r ≠ s.data.toList) :
    Calls Tryd.prog 18 #[.string s] w (NoPost w) := by
  have R := Lib.hid (RI.new w)
  have HN := Lib.hid hno
  clear hno
  go_enter Tryd.func18, Tryd.ntmps18
  go_upto_region 4 with fail
  generalize (w.alloc (.cells #[.int .i64 0, .int .u32 0, .int .u32 0] 33)).alloc (.cells #[.int .i64 0, .int .u32 0, .int .u32 0] 33) = W0 at *
  obtain ⟨B, hB⟩ : ∃ b, w.heap.size = b := ⟨_, rfl⟩
  rw [hB] at R ⊢
  go_cut [7] (fun s7 wx => ∃ sg, s7 = .bool sg ∧ (sg = true → 0 < s.size) ∧ W0 = wx)
  case first =>
    go_wp2_with fail
    all_goals (go_meet; first | exact ⟨_, rfl, (fun _ => ‹_›), rfl⟩ | exact ⟨false, rfl, (fun h => by cases h), rfl⟩)
  case rest =>
  obtain ⟨sg, rfl, hsg, rfl⟩ := hcut
  go_upto_if 26 with fail
  go_cut [5, 6] (fun s5 s6 wx => ∃ a M : Nat, s5 = .int .i64 (a : Int) ∧ s6 = .int .u64 (M : Int) ∧ a ≤ s.size ∧ 9 ≤ M ∧ M ≤ 9223372036854775808 ∧ W0 = wx)
  case first =>
    cases sg
    · go_wp2_with fail
      go_meet
      exact ⟨0, 9223372036854775807, rfl, rfl, by omega, by omega, by omega, rfl⟩
    · have := hsg rfl
      go_wp2_with fail
      go_meet
      exact ⟨1, 9223372036854775808, rfl, rfl, by omega, by omega, by omega, rfl⟩
  case rest =>
  obtain ⟨a, M, rfl, rfl, ha, hM, hM2, rfl⟩ := hcut
  go_wp2_with fail
  refine (digits_any s a M _ ha (by omega) hM (by omega)).mono ?_
  rintro e w' ⟨⟨n, i, rfl, hd⟩, rfl⟩
  rcases dig_bd hd ha with ⟨rfl, rfl⟩ | ⟨m, p, rfl, hm, rfl, hp, hp2⟩
  · clear hd
    obtain ⟨⟨d0, d1, d2⟩, f0, f1, f2⟩ := three_cells R.out.h0
    have hf := set_three (u := .int .u32 0) (set_three (u := .int .u32 0) (set_three (u := .int .i64 0) R.out.h0 0 (by omega)) 1 (by omega)) 2 (by omega)
    obtain ⟨⟨e0, e1, e2⟩, -⟩ := three_cells hf
    have BF := Lib.hid (((R.out.g.setCell (p := ⟨B, 0, none⟩) (by simp) (.int .i64 0)).setCell (p := ⟨B, 1, none⟩) (by simp) (.int .u32 0)).setCell (p := ⟨B, 2, none⟩) (by simp) (.int .u32 0))
    clear hf
    go_wp2
    refine bodyPost_ret (v := .tuple #[.agg #[.int .i64 0, .int .u32 0, .int .u32 0], .bool false]) (by simp [results, Tryd.f18, go_sem, e0, e1, e2]) rfl ?_
    exact ⟨rfl, hB ▸ BF.out⟩
  clear hd
  obtain ⟨⟨x0, x1, x2⟩, y0, y1, y2⟩ := three_cells R.out.h1
  go_upto_if 40 with fail
  obtain ⟨v, hv⟩ : ∃ v, wrap64 (m : Int) = v := ⟨_, rfl⟩
  have hv0 : -9223372036854775808 ≤ v ∧ v ≤ 9223372036854775807 := by rw [← hv]; unfold wrap64; omega
  replace R := Lib.hid (R.out.set0 (wrap64 (m : Int)))
  rw [hv] at R ⊢
  generalize W0.setCell ⟨B + 1, 0, none⟩ (.int .i64 v) = W1 at *
  clear x0 x1 x2 y0 y1 y2 hv
  go_cut [9] (fun s9 wx => s9 = .int .i64 (p : Int) ∧ ∃ v : Int, (-9223372036854775808 ≤ v ∧ v ≤ 9223372036854775807) ∧ RI w B v 0 0 wx)
  case first =>
    cases sg
    · go_wp2_with fail
      go_meet
      exact ⟨rfl, v, hv0, R.out⟩
    · obtain ⟨⟨x0, x1, x2⟩, y0, y1, y2⟩ := three_cells R.out.h1
      go_wp2_with fail
      go_meet
      exact ⟨rfl, _, by unfold wrap64; omega, R.out.set0 _⟩
  case rest =>
  obtain ⟨rfl, v, hv0, hR⟩ := hcut
  replace R := Lib.hid hR
  clear hR
  go_upto_region 14 with fail
  go_cut [54] (fun s54 wx => ∃ t, s54 = .bool t ∧ (t = true → p < s.size) ∧ wc = wx)
  case first =>
    go_wp2_with fail
    all_goals (go_meet; first | exact ⟨_, rfl, (fun _ => by omega), rfl⟩ | exact ⟨false, rfl, (fun h => by cases h), rfl⟩)
  case rest =>
  obtain ⟨t, rfl, ht, rfl⟩ := hcut
  go_upto_if 54 with fail
  go_cut [9] (fun s9 wx => ∃ (p : Nat) (n : Int), s9 = .int .i64 (p : Int) ∧ p ≤ s.size ∧ (0 ≤ n ∧ n < 4294967296) ∧ RI w B v n 0 wx)
  case first =>
    cases t
    · go_wp2_with fail
      go_meet
      exact ⟨p, 0, rfl, hp2, by omega, R.out⟩
    · have hps := ht rfl
      have HP := Lib.hid (show ((p : Int) + 1) = ((p + 1 : Nat) : Int) by omega)
      go_wp2_with fail
      rw [HP.out]
      refine (digits_any s (p + 1) 4294967295 _ (by omega) (by omega) (by omega) (by omega)).mono ?_
      rintro e w' ⟨⟨n, i, rfl, hd⟩, rfl⟩
      rcases dig_bd hd (by omega) with ⟨rfl, rfl⟩ | ⟨n, q, rfl, hn, rfl, hq, hq2⟩
      · clear hd
        obtain ⟨⟨d0, d1, d2⟩, f0, f1, f2⟩ := three_cells R.out.h0
        have hf := set_three (u := .int .u32 0) (set_three (u := .int .u32 0) (set_three (u := .int .i64 0) R.out.h0 0 (by omega)) 1 (by omega)) 2 (by omega)
        obtain ⟨⟨e0, e1, e2⟩, -⟩ := three_cells hf
        have BF := Lib.hid (((R.out.g.setCell (p := ⟨B, 0, none⟩) (by simp) (.int .i64 0)).setCell (p := ⟨B, 1, none⟩) (by simp) (.int .u32 0)).setCell (p := ⟨B, 2, none⟩) (by simp) (.int .u32 0))
        clear hf
        go_wp2
        refine bodyPost_ret (v := .tuple #[.agg #[.int .i64 0, .int .u32 0, .int .u32 0], .bool false]) (by simp [results, Tryd.f18, go_sem, e0, e1, e2]) rfl ?_
        exact ⟨rfl, hB ▸ BF.out⟩
      · clear hd
        obtain ⟨⟨x0, x1, x2⟩, y0, y1, y2⟩ := three_cells R.out.h1
        go_wp2_with fail
        go_meet
        exact ⟨q, n, rfl, hq2, by omega, R.out.set1 _⟩
  case rest =>
  obtain ⟨p, n, rfl, hp2, hn0, hR⟩ := hcut
  replace R := Lib.hid hR
  clear hR
  go_upto_region 19 with fail
  go_cut [78] (fun s78 wx => ∃ t, s78 = .bool t ∧ (t = true → p < s.size) ∧ wc = wx)
  case first =>
    go_wp2_with fail
    all_goals (go_meet; first | exact ⟨_, rfl, (fun _ => by omega), rfl⟩ | exact ⟨false, rfl, (fun h => by cases h), rfl⟩)
  case rest =>
  clear ht
  obtain ⟨t, rfl, ht, rfl⟩ := hcut
  go_upto_if 78 with fail
  go_cut [9] (fun s9 wx => ∃ (p : Nat) (r : Int), s9 = .int .i64 (p : Int) ∧ p ≤ s.size ∧ (0 ≤ r ∧ r < 4294967296) ∧ (r = 0 ∨ Good r) ∧ RI w B v n r wx)
  case first =>
    cases t
    · go_wp2_with fail
      go_meet
      exact ⟨p, 0, rfl, hp2, by omega, .inl rfl, R.out⟩
    · have hps := ht rfl
      have HP := Lib.hid (show ((p : Int) + 1) = ((p + 1 : Nat) : Int) by omega)
      go_wp2_with fail
      rw [HP.out]
      refine (digits_any s (p + 1) 100 _ (by omega) (by omega) (by omega) (by omega)).mono ?_
      rintro e w' ⟨⟨x, i, rfl, hd⟩, rfl⟩
      rcases dig_bd hd (by omega) with ⟨rfl, rfl⟩ | ⟨x, q, rfl, hx, rfl, hq, hq2⟩
      · clear hd
        obtain ⟨⟨d0, d1, d2⟩, f0, f1, f2⟩ := three_cells R.out.h0
        have hf := set_three (u := .int .u32 0) (set_three (u := .int .u32 0) (set_three (u := .int .i64 0) R.out.h0 0 (by omega)) 1 (by omega)) 2 (by omega)
        obtain ⟨⟨e0, e1, e2⟩, -⟩ := three_cells hf
        have BF := Lib.hid (((R.out.g.setCell (p := ⟨B, 0, none⟩) (by simp) (.int .i64 0)).setCell (p := ⟨B, 1, none⟩) (by simp) (.int .u32 0)).setCell (p := ⟨B, 2, none⟩) (by simp) (.int .u32 0))
        clear hf
        go_wp2
        refine bodyPost_ret (v := .tuple #[.agg #[.int .i64 0, .int .u32 0, .int .u32 0], .bool false]) (by simp [results, Tryd.f18, go_sem, e0, e1, e2]) rfl ?_
        exact ⟨rfl, hB ▸ BF.out⟩
      · clear hd
        by_cases hql : q < s.size
        · by_cases hq58 : ((s[q].toNat : Int) != 58) = true
          · skip
            obtain ⟨⟨d0, d1, d2⟩, f0, f1, f2⟩ := three_cells R.out.h0
            have hf := set_three (u := .int .u32 0) (set_three (u := .int .u32 0) (set_three (u := .int .i64 0) R.out.h0 0 (by omega)) 1 (by omega)) 2 (by omega)
            obtain ⟨⟨e0, e1, e2⟩, -⟩ := three_cells hf
            have BF := Lib.hid (((R.out.g.setCell (p := ⟨B, 0, none⟩) (by simp) (.int .i64 0)).setCell (p := ⟨B, 1, none⟩) (by simp) (.int .u32 0)).setCell (p := ⟨B, 2, none⟩) (by simp) (.int .u32 0))
            clear hf
            go_wp2
            refine bodyPost_ret (v := .tuple #[.agg #[.int .i64 0, .int .u32 0, .int .u32 0], .bool false]) (by simp [results, Tryd.f18, go_sem, e0, e1, e2]) rfl ?_
            exact ⟨rfl, hB ▸ BF.out⟩
          · have hq58' : ((s[q].toNat : Int) != 58) = false := by simpa using hq58
            clear hq58
            have HQ := Lib.hid (show ((q : Int) + 1) = ((q + 1 : Nat) : Int) by omega)
            go_wp2_with fail
            rw [HQ.out]
            refine (digits_any s (q + 1) 16777215 _ (by omega) (by omega) (by omega) (by omega)).mono ?_
            rintro e w' ⟨⟨y, i, rfl, hd⟩, rfl⟩
            rcases dig_bd hd (by omega) with ⟨rfl, rfl⟩ | ⟨y, z, rfl, hy, rfl, hz, hz2⟩
            · clear hd
              obtain ⟨⟨d0, d1, d2⟩, f0, f1, f2⟩ := three_cells R.out.h0
              have hf := set_three (u := .int .u32 0) (set_three (u := .int .u32 0) (set_three (u := .int .i64 0) R.out.h0 0 (by omega)) 1 (by omega)) 2 (by omega)
              obtain ⟨⟨e0, e1, e2⟩, -⟩ := three_cells hf
              have BF := Lib.hid (((R.out.g.setCell (p := ⟨B, 0, none⟩) (by simp) (.int .i64 0)).setCell (p := ⟨B, 1, none⟩) (by simp) (.int .u32 0)).setCell (p := ⟨B, 2, none⟩) (by simp) (.int .u32 0))
              clear hf
              go_wp2
              refine bodyPost_ret (v := .tuple #[.agg #[.int .i64 0, .int .u32 0, .int .u32 0], .bool false]) (by simp [results, Tryd.f18, go_sem, e0, e1, e2]) rfl ?_
              exact ⟨rfl, hB ▸ BF.out⟩
            · clear hd
              go_wp2_with fail
              by_cases hf : 1 ≤ (x : Int) ∧ (x : Int) ≤ 72 ∧ 1 ≤ (y : Int) ∧ (y : Int) ≤ 16777215
              · refine (rref_ok (x : Int) (y : Int) _ hf.1 hf.2.1 hf.2.2.1 hf.2.2.2).mono ?_
                rintro e w' ⟨rfl, rfl⟩
                obtain ⟨⟨x0, x1, x2⟩, y0, y1, y2⟩ := three_cells R.out.h1
                go_wp2_with fail
                go_meet
                exact ⟨z, _, rfl, hz2, by omega, .inr (by unfold Good; omega), R.out.set2 _⟩
              · refine (rref_no (x : Int) (y : Int) _ hf).mono ?_
                rintro e w' ⟨rfl, rfl⟩
                obtain ⟨⟨d0, d1, d2⟩, f0, f1, f2⟩ := three_cells R.out.h0
                have hf := set_three (u := .int .u32 0) (set_three (u := .int .u32 0) (set_three (u := .int .i64 0) R.out.h0 0 (by omega)) 1 (by omega)) 2 (by omega)
                obtain ⟨⟨e0, e1, e2⟩, -⟩ := three_cells hf
                have BF := Lib.hid (((R.out.g.setCell (p := ⟨B, 0, none⟩) (by simp) (.int .i64 0)).setCell (p := ⟨B, 1, none⟩) (by simp) (.int .u32 0)).setCell (p := ⟨B, 2, none⟩) (by simp) (.int .u32 0))
                clear hf
                go_wp2
                refine bodyPost_ret (v := .tuple #[.agg #[.int .i64 0, .int .u32 0, .int .u32 0], .bool false]) (by simp [results, Tryd.f18, go_sem, e0, e1, e2]) rfl ?_
                exact ⟨rfl, hB ▸ BF.out⟩
        · skip
          obtain ⟨⟨d0, d1, d2⟩, f0, f1, f2⟩ := three_cells R.out.h0
          have hf := set_three (u := .int .u32 0) (set_three (u := .int .u32 0) (set_three (u := .int .i64 0) R.out.h0 0 (by omega)) 1 (by omega)) 2 (by omega)
          obtain ⟨⟨e0, e1, e2⟩, -⟩ := three_cells hf
          have BF := Lib.hid (((R.out.g.setCell (p := ⟨B, 0, none⟩) (by simp) (.int .i64 0)).setCell (p := ⟨B, 1, none⟩) (by simp) (.int .u32 0)).setCell (p := ⟨B, 2, none⟩) (by simp) (.int .u32 0))
          clear hf
          go_wp2
          refine bodyPost_ret (v := .tuple #[.agg #[.int .i64 0, .int .u32 0, .int .u32 0], .bool false]) (by simp [results, Tryd.f18, go_sem, e0, e1, e2]) rfl ?_
          exact ⟨rfl, hB ▸ BF.out⟩
  case rest =>
  obtain ⟨p, r, rfl, hp2, hr0, hrg, hR⟩ := hcut
  have HRG := Lib.hid hrg
  clear hrg
  replace R := Lib.hid hR
  clear hR
  by_cases hpl : p = s.size
  · subst hpl
    obtain ⟨⟨x0, x1, x2⟩, y0, y1, y2⟩ := three_cells R.out.h1
    go_wp2_with fail
    clear x0 x1 x2 y0 y1 y2
    refine (rtext_any v n r _ hv0.1 hv0.2 hn0.1 hn0.2 hr0.1 hr0.2).mono ?_
    rintro e W3 ⟨rfl, hb⟩
    replace R := Lib.hid (R.out.below hb)
    have hne : (textOf v n r == s.toList) = false := by
      rw [beq_eq_false_iff_ne, ByteArray.toList_eq]
      exact HN.out v n r hv0 hn0 HRG.out
    clear hb
    obtain ⟨⟨d0, d1, d2⟩, f0, f1, f2⟩ := three_cells R.out.h0
    have hf := set_three (u := .int .u32 0) (set_three (u := .int .u32 0) (set_three (u := .int .i64 0) R.out.h0 0 (by omega)) 1 (by omega)) 2 (by omega)
    obtain ⟨⟨e0, e1, e2⟩, -⟩ := three_cells hf
    have BF := Lib.hid (((R.out.g.setCell (p := ⟨B, 0, none⟩) (by simp) (.int .i64 0)).setCell (p := ⟨B, 1, none⟩) (by simp) (.int .u32 0)).setCell (p := ⟨B, 2, none⟩) (by simp) (.int .u32 0))
    clear hf
    go_wp2
    refine bodyPost_ret (v := .tuple #[.agg #[.int .i64 0, .int .u32 0, .int .u32 0], .bool false]) (by simp [results, Tryd.f18, go_sem, e0, e1, e2]) rfl ?_
    exact ⟨rfl, hB ▸ BF.out⟩
  · have hpl2 : ((p : Int) != (s.size : Int)) = true := by simp; omega
    obtain ⟨⟨d0, d1, d2⟩, f0, f1, f2⟩ := three_cells R.out.h0
    have hf := set_three (u := .int .u32 0) (set_three (u := .int .u32 0) (set_three (u := .int .i64 0) R.out.h0 0 (by omega)) 1 (by omega)) 2 (by omega)
    obtain ⟨⟨e0, e1, e2⟩, -⟩ := three_cells hf
    have BF := Lib.hid (((R.out.g.setCell (p := ⟨B, 0, none⟩) (by simp) (.int .i64 0)).setCell (p := ⟨B, 1, none⟩) (by simp) (.int .u32 0)).setCell (p := ⟨B, 2, none⟩) (by simp) (.int .u32 0))
    clear hf
    go_wp2
    refine bodyPost_ret (v := .tuple #[.agg #[.int .i64 0, .int .u32 0, .int .u32 0], .bool false]) (by simp [results, Tryd.f18, go_sem, e0, e1, e2]) rfl ?_
    exact ⟨rfl, hB ▸ BF.out⟩
end Go.Proofs.YthcafhdokbejkaaDoor
