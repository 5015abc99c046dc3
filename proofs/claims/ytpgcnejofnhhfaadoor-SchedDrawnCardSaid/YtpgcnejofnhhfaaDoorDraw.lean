/- Draw of package sched and of the reference: both answer the generated schedule. -/
import Derived.Test.YtpgcnejofnhhfaaDoorAwake
import Derived.Laws.BitsAllLaws
namespace Go.Proofs.YtpgcnejofnhhfaaDoor
open Go.ChangeShapes Go.WideShapes Go.ChangeAt Go.RowKit

/-- The generator's next state. -/
def stL (s : Int) : Int := IntKind.u64.wrap (s + 11400714819323198485)
def mixN (x : Int) : Int := bits .xor .u64 x (x / 8589934592)
/-- The number that it draws. -/
def numL (s : Int) : Int := mixN (IntKind.u64.wrap (mixN (stL s) * 18397679294719823053))
def U64 (x : Int) : Prop := 0 ≤ x ∧ x < 18446744073709551616
theorem wrap_u64 (x : Int) : U64 (IntKind.u64.wrap x) := by
  have e : IntKind.u64.wrap x = x % 18446744073709551616 := rfl
  unfold U64; rw [e]; omega
theorem mixN_u64 {x : Int} (h : U64 x) : U64 (mixN x) := by
  unfold mixN U64 at *
  rw [u64_xor x _ h.1 h.2 (by omega) (by omega)]
  have := Nat.xor_lt_two_pow (x := x.toNat) (y := (x / 8589934592).toNat) (n := 64) (by omega) (by omega)
  omega
theorem stL_u64 (s : Int) : U64 (stL s) := wrap_u64 _
theorem numL_u64 (s : Int) : U64 (numL s) := mixN_u64 (wrap_u64 _)
theorem draw33 (s : Int) (w : World) (h : U64 s) : Calls Tryd.prog 33 #[.int .u64 s] w fun e w' => e = .returned (.tuple #[.int .u64 (stL s), .int .u64 (numL s)]) ∧ w = w' := by
  obtain ⟨h0, h1⟩ := h
  go_enter Tryd.func33, Tryd.ntmps33
  go_wp2
  go_ret2
  exact ⟨rfl, rfl⟩
theorem draw34 (s : Int) (w : World) (h : U64 s) : Calls Tryd.prog 34 #[.int .u64 s] w fun e w' => e = .returned (.tuple #[.int .u64 (stL s), .int .u64 (numL s)]) ∧ w = w' := by
  obtain ⟨h0, h1⟩ := h
  go_enter Tryd.func34, Tryd.ntmps34
  go_wp2
  go_ret2
  exact ⟨rfl, rfl⟩
/-- One step of the generated schedule, and the crash behind it. -/
def drawStep (t g c : Int) (i : Nat) (x : Int × List Pk) : Int × List Pk :=
  if 0 < g ∧ (i : Int) % g = 0 ∧ (i : Int) / g ≤ c then (stL (stL x.1), x.2 ++ [(0, 1 + numL x.1 % t, numL x.1 / 4294967296 % 4)] ++ [(2, 0, numL (stL x.1) % 64 - 2)])
  else (stL x.1, x.2 ++ [(0, 1 + numL x.1 % t, numL x.1 / 4294967296 % 4)])
def drawGo (t g c s : Int) : Nat → Int × List Pk
  | 0 => (s, [])
  | k + 1 => drawStep t g c (k + 1) (drawGo t g c s k)
def drawL (s t : Int) (n : Nat) (c : Int) : List Pk := (drawGo t ((n : Int) / (c + 1)) c s n).2
theorem drawGo_u64 (t g c s : Int) (h : U64 s) (k : Nat) : U64 (drawGo t g c s k).1 := by
  cases k with
  | zero => exact h
  | succ k => simp only [drawGo, drawStep]; split <;> exact stL_u64 _
theorem drawGo_len (t g c s : Int) (k : Nat) : (drawGo t g c s k).2.length ≤ 2 * k := by
  induction k with
  | zero => exact Nat.le_refl _
  | succ k ih => simp only [drawGo, drawStep]; split <;> simp <;> omega
/-- What holds at the head of the generator's loop. -/
def HeadD (e : TypeId) (w : World) (t g c s : Int) (n : Nat) (sv pv iv : Value) (wr : World) : Prop :=
  ∃ k : Nat, k ≤ n ∧ iv = .int .i64 ((k : Int) + 1) ∧ sv = .int .u64 (drawGo t g c s k).1 ∧ Row e w.heap.size wr pv (drawGo t g c s k).2 ∧ Below w.heap.size w wr
def DrawP (e : TypeId) (s t : Int) (n : Nat) (c : Int) (w : World) (x : Ending) (w' : World) : Prop := ∃ v, x = .returned v ∧ Row e w.heap.size w' v (drawL s t n c) ∧ Below w.heap.size w w'
theorem fits_c (t n c : Int) (w : World) : Calls Tryd.prog 20 #[.int .i64 t, .int .i64 n, .int .i64 c] w fun e w' => e = .returned (.bool (fitsL t n && decide (0 ≤ c ∧ c ≤ 64))) ∧ w = w' := by
  have hf : (fitsL t n && decide (0 ≤ c ∧ c ≤ 64)) = decide (1 ≤ t ∧ t ≤ 8 ∧ 0 ≤ n ∧ n ≤ 4096 ∧ 0 ≤ c ∧ c ≤ 64) := by rw [Bool.eq_iff_iff]; simp [fitsL]; omega
  rw [hf]
  by_cases h0 : 1 ≤ t
  · by_cases h1 : t ≤ 8
    · by_cases h2 : 0 ≤ n
      · by_cases h3 : n ≤ 4096
        · by_cases h4 : 0 ≤ c
          · by_cases h5 : c ≤ 64
            · rw [show decide (1 ≤ t ∧ t ≤ 8 ∧ 0 ≤ n ∧ n ≤ 4096 ∧ 0 ≤ c ∧ c ≤ 64) = true by simp; omega]
              clear hf
              go_enter Tryd.func20, Tryd.ntmps20
              go_wp2
              go_ret
              exact ⟨by simp; try omega, rfl⟩
            · rw [show decide (1 ≤ t ∧ t ≤ 8 ∧ 0 ≤ n ∧ n ≤ 4096 ∧ 0 ≤ c ∧ c ≤ 64) = false by simp; omega]
              clear hf
              go_enter Tryd.func20, Tryd.ntmps20
              go_wp2
              go_ret
              exact ⟨by simp; try omega, rfl⟩
          · rw [show decide (1 ≤ t ∧ t ≤ 8 ∧ 0 ≤ n ∧ n ≤ 4096 ∧ 0 ≤ c ∧ c ≤ 64) = false by simp; omega]
            clear hf
            go_enter Tryd.func20, Tryd.ntmps20
            go_wp2
            go_ret
            exact ⟨by simp; try omega, rfl⟩
        · rw [show decide (1 ≤ t ∧ t ≤ 8 ∧ 0 ≤ n ∧ n ≤ 4096 ∧ 0 ≤ c ∧ c ≤ 64) = false by simp; omega]
          clear hf
          go_enter Tryd.func20, Tryd.ntmps20
          go_wp2
          go_ret
          exact ⟨by simp; try omega, rfl⟩
      · rw [show decide (1 ≤ t ∧ t ≤ 8 ∧ 0 ≤ n ∧ n ≤ 4096 ∧ 0 ≤ c ∧ c ≤ 64) = false by simp; omega]
        clear hf
        go_enter Tryd.func20, Tryd.ntmps20
        go_wp2
        go_ret
        exact ⟨by simp; try omega, rfl⟩
    · rw [show decide (1 ≤ t ∧ t ≤ 8 ∧ 0 ≤ n ∧ n ≤ 4096 ∧ 0 ≤ c ∧ c ≤ 64) = false by simp; omega]
      clear hf
      go_enter Tryd.func20, Tryd.ntmps20
      go_wp2
      go_ret
      exact ⟨by simp; try omega, rfl⟩
  · rw [show decide (1 ≤ t ∧ t ≤ 8 ∧ 0 ≤ n ∧ n ≤ 4096 ∧ 0 ≤ c ∧ c ≤ 64) = false by simp; omega]
    clear hf
    go_enter Tryd.func20, Tryd.ntmps20
    go_wp2
    go_ret
    exact ⟨by simp; try omega, rfl⟩
set_option maxRecDepth 100000 in
set_option maxHeartbeats 3200000 in
theorem draw19 (s t : Int) (n : Nat) (c : Int) (w : World) (hs : U64 s) (t1 : 1 ≤ t) (t8 : t ≤ 8) (hn : n ≤ 4096) (c0 : 0 ≤ c) (c6 : c ≤ 64) : Calls Tryd.prog 19 #[.int .u64 s, .int .i64 t, .int .i64 n, .int .i64 c] w (DrawP 35 s t n c w) := by
  obtain ⟨i0, hi, hz0, hz1, hz2⟩ := info_parts info35
  have HF := Lib.hid (show fitsL t n = true by unfold fitsL; simp; omega)
  have HU := Lib.hid (fun k => drawGo_u64 t ((n : Int) / (c + 1)) c s hs k)
  have HL := Lib.hid (fun k => drawGo_len t ((n : Int) / (c + 1)) c s k)
  have HD := Lib.hid (show drawL s t n c = (drawGo t ((n : Int) / (c + 1)) c s n).2 from rfl)
  have g0 : (0 : Int) ≤ (n : Int) / (c + 1) := Int.ediv_nonneg (by omega) (by omega)
  have g1 : (n : Int) / (c + 1) ≤ 4096 := Int.le_trans (Int.ediv_le_self _ (by omega)) (by omega)
  have hs2 := hs
  obtain ⟨s0, s1⟩ := hs2
  go_enter Tryd.func19, Tryd.ntmps19
  go_wp2_with fail
  refine (fits_any t n _).mono ?_
  rintro e w' ⟨rfl, rfl⟩
  rw [HF.out]
  go_wp2_with fail
  generalize (n : Int) / (c + 1) = g at *
  go_loopw [10, 11, 12] (fun sv pv iv wr => HeadD 35 w t g c s n sv pv iv wr) (fun _ _ iv _ => (n + 1 - (intOf iv).toNat))
  case atStart => exact ⟨0, by omega, rfl, rfl, Row.nil _ _ _, Below.refl _ _⟩
  case round =>
    obtain ⟨k, hk, rfl, rfl, hrow, hb⟩ := hrel
    have hu := HU.out k
    have hlen := HL.out k
    have HS : Hid (drawGo t g c s (k + 1) = drawStep t g c (k + 1) (drawGo t g c s k)) := Lib.hid rfl
    have HX := Lib.hid (show drawGo t g c s k = ((drawGo t g c s k).1, (drawGo t g c s k).2) from rfl)
    have R := Lib.hid hrow
    have BB := Lib.hid hb
    have hlt := hb.size
    clear hrow hb
    by_cases hkn : k < n
    · rw [HX.out] at HS
      clear HX
      generalize (drawGo t g c s k).1 = x at *
      generalize (drawGo t g c s k).2 = acc at *
      obtain ⟨x0, x1⟩ := hu
      have hkn2 : ((k : Int) + 1) ≤ n := by omega
      go_wp2_with fail
      refine (draw33 x _ ⟨x0, x1⟩).mono ?_
      rintro e w' ⟨rfl, rfl⟩
      obtain ⟨y0, y1⟩ := stL_u64 x
      obtain ⟨z0, z1⟩ := numL_u64 x
      have SD : Hid (drawStep t g c (k + 1) (x, acc) = if 0 < g ∧ ((k : Int) + 1) % g = 0 ∧ ((k : Int) + 1) / g ≤ c then (stL (stL x), acc ++ [(0, 1 + numL x % t, numL x / 4294967296 % 4)] ++ [(2, 0, numL (stL x) % 64 - 2)])
        else (stL x, acc ++ [(0, 1 + numL x % t, numL x / 4294967296 % 4)])) := Lib.hid rfl
      obtain ⟨z, hz⟩ : ∃ z, numL x = z := ⟨_, rfl⟩
      rw [hz] at z0 z1 SD ⊢
      clear hz
      obtain ⟨y, hy⟩ : ∃ y, stL x = y := ⟨_, rfl⟩
      rw [hy] at y0 y1 SD ⊢
      clear hy
      have m0 : 0 ≤ z % t := Int.emod_nonneg _ (by omega)
      have m1 : z % t < 8 := by have := Int.emod_lt_of_pos z (show 0 < t by omega); omega
      by_cases hA : 0 < g
      · by_cases hB : ((k : Int) + 1) % g = 0
        · have hBb : ((((k : Int) + 1) % g) == 0) = true := by rw [hB]; rfl
          have d0 : 0 ≤ ((k : Int) + 1) / g := Int.ediv_nonneg (by omega) (by omega)
          by_cases hC : ((k : Int) + 1) / g ≤ c
          · skip
            go_wp2_with (first
              | (at_builtin; refine wpList_append_own _ rfl (.tmp 41) (.tmp 53) 23 rfl w.heap.size 35 i0 (.agg #[.int .i64 0, .int .i64 0, .int .i64 0]) 3 24 Tryd.underlying23 hi hz0 hz1 hz2 rfl (by decide) _ _ _ rfl (Row.below R.out (below1 _ _)) ⟨wr.heap.size, 0, none⟩ 1 1 [.int .i64 0, .int .i64 (1 + z % t), .int .i64 (z / 4294967296 % 4)] rfl rfl (tri_new _ _ _ _ _) (tri_one _ _ _) (by unfold maxLen; omega) (by omega) (by simp; omega) ?_; intro v1 w1 hown' hgrow _; have B1 := Lib.hid (below_app BB.out hlt R.out hgrow); have O1 := Lib.hid (row_snoc hown'); clear hown' hgrow)
              | fail)
            have hlt1 := B1.out.size
            have hacc : (acc ++ [(0, 1 + z % t, z / 4294967296 % 4)] : List Pk).length = acc.length + 1 := by simp
            refine (draw33 y _ ⟨y0, y1⟩).mono ?_
            rintro e w' ⟨rfl, rfl⟩
            obtain ⟨u0, u1⟩ := stL_u64 y
            obtain ⟨v0, v1⟩ := numL_u64 y
            obtain ⟨z2, hz⟩ : ∃ z, numL y = z := ⟨_, rfl⟩
            rw [hz] at v0 v1 SD ⊢
            clear hz
            obtain ⟨y2, hy⟩ : ∃ z, stL y = z := ⟨_, rfl⟩
            rw [hy] at u0 u1 SD ⊢
            clear hy
            go_wp2_with (first
              | (at_builtin; refine wpList_append_own _ rfl (.tmp 75) (.tmp 81) 23 rfl w.heap.size 35 i0 (.agg #[.int .i64 0, .int .i64 0, .int .i64 0]) 3 24 Tryd.underlying23 hi hz0 hz1 hz2 rfl (by decide) _ _ _ rfl (Row.below O1.out (below1 _ _)) ⟨w1.heap.size, 0, none⟩ 1 1 [.int .i64 2, .int .i64 0, .int .i64 (z2 % 64 - 2)] rfl rfl (tri_new _ _ _ _ _) (tri_one _ _ _) (by unfold maxLen; omega) (by omega) (by simp; omega) ?_; intro v2 w2 hown' hgrow _; have B2 := Lib.hid (below_app B1.out hlt1 O1.out hgrow); have O2 := Lib.hid (row_snoc hown'); clear hown' hgrow)
              | fail)
            go_roundw
            case rel =>
              have e : drawGo t g c s (k + 1) = (y2, acc ++ [(0, 1 + z % t, z / 4294967296 % 4)] ++ [(2, 0, z2 % 64 - 2)]) := by rw [HS.out, SD.out, if_pos ⟨hA, hB, hC⟩]
              exact ⟨k + 1, by omega, by go_num, by rw [e], by rw [e]; exact O2.out, B2.out⟩
            case measure => simp [intOf]; omega
          · skip
            go_wp2_with (first
              | (at_builtin; refine wpList_append_own _ rfl (.tmp 41) (.tmp 53) 23 rfl w.heap.size 35 i0 (.agg #[.int .i64 0, .int .i64 0, .int .i64 0]) 3 24 Tryd.underlying23 hi hz0 hz1 hz2 rfl (by decide) _ _ _ rfl (Row.below R.out (below1 _ _)) ⟨wr.heap.size, 0, none⟩ 1 1 [.int .i64 0, .int .i64 (1 + z % t), .int .i64 (z / 4294967296 % 4)] rfl rfl (tri_new _ _ _ _ _) (tri_one _ _ _) (by unfold maxLen; omega) (by omega) (by simp; omega) ?_; intro v1 w1 hown' hgrow _; have B1 := Lib.hid (below_app BB.out hlt R.out hgrow); have O1 := Lib.hid (row_snoc hown'); clear hown' hgrow)
              | fail)
            go_roundw
            case rel =>
              have e : drawGo t g c s (k + 1) = (y, acc ++ [(0, 1 + z % t, z / 4294967296 % 4)]) := by rw [HS.out, SD.out, if_neg (by exact fun h => absurd h.2.2 (by omega))]
              exact ⟨k + 1, by omega, by go_num, by rw [e], by rw [e]; exact O1.out, B1.out⟩
            case measure => simp [intOf]; omega
        · have hBb : ((((k : Int) + 1) % g) == 0) = false := by rw [beq_eq_false_iff_ne]; exact hB
          go_wp2_with (first
            | (at_builtin; refine wpList_append_own _ rfl (.tmp 41) (.tmp 53) 23 rfl w.heap.size 35 i0 (.agg #[.int .i64 0, .int .i64 0, .int .i64 0]) 3 24 Tryd.underlying23 hi hz0 hz1 hz2 rfl (by decide) _ _ _ rfl (Row.below R.out (below1 _ _)) ⟨wr.heap.size, 0, none⟩ 1 1 [.int .i64 0, .int .i64 (1 + z % t), .int .i64 (z / 4294967296 % 4)] rfl rfl (tri_new _ _ _ _ _) (tri_one _ _ _) (by unfold maxLen; omega) (by omega) (by simp; omega) ?_; intro v1 w1 hown' hgrow _; have B1 := Lib.hid (below_app BB.out hlt R.out hgrow); have O1 := Lib.hid (row_snoc hown'); clear hown' hgrow)
            | fail)
          go_roundw
          case rel =>
            have e : drawGo t g c s (k + 1) = (y, acc ++ [(0, 1 + z % t, z / 4294967296 % 4)]) := by rw [HS.out, SD.out, if_neg (by exact fun h => hB h.2.1)]
            exact ⟨k + 1, by omega, by go_num, by rw [e], by rw [e]; exact O1.out, B1.out⟩
          case measure => simp [intOf]; omega
      · skip
        go_wp2_with (first
          | (at_builtin; refine wpList_append_own _ rfl (.tmp 41) (.tmp 53) 23 rfl w.heap.size 35 i0 (.agg #[.int .i64 0, .int .i64 0, .int .i64 0]) 3 24 Tryd.underlying23 hi hz0 hz1 hz2 rfl (by decide) _ _ _ rfl (Row.below R.out (below1 _ _)) ⟨wr.heap.size, 0, none⟩ 1 1 [.int .i64 0, .int .i64 (1 + z % t), .int .i64 (z / 4294967296 % 4)] rfl rfl (tri_new _ _ _ _ _) (tri_one _ _ _) (by unfold maxLen; omega) (by omega) (by simp; omega) ?_; intro v1 w1 hown' hgrow _; have B1 := Lib.hid (below_app BB.out hlt R.out hgrow); have O1 := Lib.hid (row_snoc hown'); clear hown' hgrow)
          | fail)
        go_roundw
        case rel =>
          have e : drawGo t g c s (k + 1) = (y, acc ++ [(0, 1 + z % t, z / 4294967296 % 4)]) := by rw [HS.out, SD.out, if_neg (by exact fun h => absurd h.1 (by omega))]
          exact ⟨k + 1, by omega, by go_num, by rw [e], by rw [e]; exact O1.out, B1.out⟩
        case measure => simp [intOf]; omega
    · obtain rfl : k = n := by omega
      have hkn2 : ¬ ((k : Int) + 1) ≤ k := by omega
      go_wp2_with fail
      go_ret
      exact ⟨_, rfl, by rw [HD.out]; exact R.out, BB.out⟩
set_option maxRecDepth 100000 in
set_option maxHeartbeats 3200000 in
theorem draw21 (s t : Int) (n : Nat) (c : Int) (w : World) (hs : U64 s) (t1 : 1 ≤ t) (t8 : t ≤ 8) (hn : n ≤ 4096) (c0 : 0 ≤ c) (c6 : c ≤ 64) : Calls Tryd.prog 21 #[.int .u64 s, .int .i64 t, .int .i64 n, .int .i64 c] w (DrawP 37 s t n c w) := by
  obtain ⟨i0, hi, hz0, hz1, hz2⟩ := info_parts info37
  have HF := Lib.hid (show fitsL t n = true by unfold fitsL; simp; omega)
  have HU := Lib.hid (fun k => drawGo_u64 t ((n : Int) / (c + 1)) c s hs k)
  have HL := Lib.hid (fun k => drawGo_len t ((n : Int) / (c + 1)) c s k)
  have HD := Lib.hid (show drawL s t n c = (drawGo t ((n : Int) / (c + 1)) c s n).2 from rfl)
  have g0 : (0 : Int) ≤ (n : Int) / (c + 1) := Int.ediv_nonneg (by omega) (by omega)
  have g1 : (n : Int) / (c + 1) ≤ 4096 := Int.le_trans (Int.ediv_le_self _ (by omega)) (by omega)
  have hs2 := hs
  obtain ⟨s0, s1⟩ := hs2
  go_enter Tryd.func21, Tryd.ntmps21
  go_wp2_with fail
  refine (fits_c t n c _).mono ?_
  rintro e w' ⟨rfl, rfl⟩
  rw [HF.out, show decide (0 ≤ c ∧ c ≤ 64) = true by simp; omega]
  go_wp2_with fail
  generalize (n : Int) / (c + 1) = g at *
  go_loopw [9, 11, 13] (fun pv sv iv wr => HeadD 37 w t g c s n sv pv iv wr) (fun _ _ iv _ => (n + 1 - (intOf iv).toNat))
  case atStart => exact ⟨0, by omega, rfl, rfl, Row.nil _ _ _, Below.refl _ _⟩
  case round =>
    obtain ⟨k, hk, rfl, rfl, hrow, hb⟩ := hrel
    have hu := HU.out k
    have hlen := HL.out k
    have HS : Hid (drawGo t g c s (k + 1) = drawStep t g c (k + 1) (drawGo t g c s k)) := Lib.hid rfl
    have HX := Lib.hid (show drawGo t g c s k = ((drawGo t g c s k).1, (drawGo t g c s k).2) from rfl)
    have R := Lib.hid hrow
    have BB := Lib.hid hb
    have hlt := hb.size
    clear hrow hb
    by_cases hkn : k < n
    · rw [HX.out] at HS
      clear HX
      generalize (drawGo t g c s k).1 = x at *
      generalize (drawGo t g c s k).2 = acc at *
      obtain ⟨x0, x1⟩ := hu
      have hkn2 : ((k : Int) + 1) ≤ n := by omega
      go_wp2_with fail
      refine (draw34 x _ ⟨x0, x1⟩).mono ?_
      rintro e w' ⟨rfl, rfl⟩
      obtain ⟨y0, y1⟩ := stL_u64 x
      obtain ⟨z0, z1⟩ := numL_u64 x
      have SD : Hid (drawStep t g c (k + 1) (x, acc) = if 0 < g ∧ ((k : Int) + 1) % g = 0 ∧ ((k : Int) + 1) / g ≤ c then (stL (stL x), acc ++ [(0, 1 + numL x % t, numL x / 4294967296 % 4)] ++ [(2, 0, numL (stL x) % 64 - 2)])
        else (stL x, acc ++ [(0, 1 + numL x % t, numL x / 4294967296 % 4)])) := Lib.hid rfl
      obtain ⟨z, hz⟩ : ∃ z, numL x = z := ⟨_, rfl⟩
      rw [hz] at z0 z1 SD ⊢
      clear hz
      obtain ⟨y, hy⟩ : ∃ y, stL x = y := ⟨_, rfl⟩
      rw [hy] at y0 y1 SD ⊢
      clear hy
      have m0 : 0 ≤ z % t := Int.emod_nonneg _ (by omega)
      have m1 : z % t < 8 := by have := Int.emod_lt_of_pos z (show 0 < t by omega); omega
      by_cases hA : 0 < g
      · by_cases hB : ((k : Int) + 1) % g = 0
        · have hBb : ((((k : Int) + 1) % g) == 0) = true := by rw [hB]; rfl
          have d0 : 0 ≤ ((k : Int) + 1) / g := Int.ediv_nonneg (by omega) (by omega)
          by_cases hC : ((k : Int) + 1) / g ≤ c
          · skip
            go_wp2_with (first
              | (at_builtin; refine wpList_append_own _ rfl (.tmp 35) (.tmp 47) 27 rfl w.heap.size 37 i0 (.agg #[.int .i64 0, .int .i64 0, .int .i64 0]) 3 24 Tryd.underlying27 hi hz0 hz1 hz2 rfl (by decide) _ _ _ rfl (Row.below R.out (below1 _ _)) ⟨wr.heap.size, 0, none⟩ 1 1 [.int .i64 0, .int .i64 (1 + z % t), .int .i64 (z / 4294967296 % 4)] rfl rfl (tri_new _ _ _ _ _) (tri_one _ _ _) (by unfold maxLen; omega) (by omega) (by simp; omega) ?_; intro v1 w1 hown' hgrow _; have B1 := Lib.hid (below_app BB.out hlt R.out hgrow); have O1 := Lib.hid (row_snoc hown'); clear hown' hgrow)
              | fail)
            have hlt1 := B1.out.size
            have hacc : (acc ++ [(0, 1 + z % t, z / 4294967296 % 4)] : List Pk).length = acc.length + 1 := by simp
            refine (draw34 y _ ⟨y0, y1⟩).mono ?_
            rintro e w' ⟨rfl, rfl⟩
            obtain ⟨u0, u1⟩ := stL_u64 y
            obtain ⟨v0, v1⟩ := numL_u64 y
            obtain ⟨z2, hz⟩ : ∃ z, numL y = z := ⟨_, rfl⟩
            rw [hz] at v0 v1 SD ⊢
            clear hz
            obtain ⟨y2, hy⟩ : ∃ z, stL y = z := ⟨_, rfl⟩
            rw [hy] at u0 u1 SD ⊢
            clear hy
            go_wp2_with (first
              | (at_builtin; refine wpList_append_own _ rfl (.tmp 69) (.tmp 75) 27 rfl w.heap.size 37 i0 (.agg #[.int .i64 0, .int .i64 0, .int .i64 0]) 3 24 Tryd.underlying27 hi hz0 hz1 hz2 rfl (by decide) _ _ _ rfl (Row.below O1.out (below1 _ _)) ⟨w1.heap.size, 0, none⟩ 1 1 [.int .i64 2, .int .i64 0, .int .i64 (z2 % 64 - 2)] rfl rfl (tri_new _ _ _ _ _) (tri_one _ _ _) (by unfold maxLen; omega) (by omega) (by simp; omega) ?_; intro v2 w2 hown' hgrow _; have B2 := Lib.hid (below_app B1.out hlt1 O1.out hgrow); have O2 := Lib.hid (row_snoc hown'); clear hown' hgrow)
              | fail)
            go_roundw
            case rel =>
              have e : drawGo t g c s (k + 1) = (y2, acc ++ [(0, 1 + z % t, z / 4294967296 % 4)] ++ [(2, 0, z2 % 64 - 2)]) := by rw [HS.out, SD.out, if_pos ⟨hA, hB, hC⟩]
              exact ⟨k + 1, by omega, by go_num, by rw [e], by rw [e]; exact O2.out, B2.out⟩
            case measure => simp [intOf]; omega
          · skip
            go_wp2_with (first
              | (at_builtin; refine wpList_append_own _ rfl (.tmp 35) (.tmp 47) 27 rfl w.heap.size 37 i0 (.agg #[.int .i64 0, .int .i64 0, .int .i64 0]) 3 24 Tryd.underlying27 hi hz0 hz1 hz2 rfl (by decide) _ _ _ rfl (Row.below R.out (below1 _ _)) ⟨wr.heap.size, 0, none⟩ 1 1 [.int .i64 0, .int .i64 (1 + z % t), .int .i64 (z / 4294967296 % 4)] rfl rfl (tri_new _ _ _ _ _) (tri_one _ _ _) (by unfold maxLen; omega) (by omega) (by simp; omega) ?_; intro v1 w1 hown' hgrow _; have B1 := Lib.hid (below_app BB.out hlt R.out hgrow); have O1 := Lib.hid (row_snoc hown'); clear hown' hgrow)
              | fail)
            go_roundw
            case rel =>
              have e : drawGo t g c s (k + 1) = (y, acc ++ [(0, 1 + z % t, z / 4294967296 % 4)]) := by rw [HS.out, SD.out, if_neg (by exact fun h => absurd h.2.2 (by omega))]
              exact ⟨k + 1, by omega, by go_num, by rw [e], by rw [e]; exact O1.out, B1.out⟩
            case measure => simp [intOf]; omega
        · have hBb : ((((k : Int) + 1) % g) == 0) = false := by rw [beq_eq_false_iff_ne]; exact hB
          go_wp2_with (first
            | (at_builtin; refine wpList_append_own _ rfl (.tmp 35) (.tmp 47) 27 rfl w.heap.size 37 i0 (.agg #[.int .i64 0, .int .i64 0, .int .i64 0]) 3 24 Tryd.underlying27 hi hz0 hz1 hz2 rfl (by decide) _ _ _ rfl (Row.below R.out (below1 _ _)) ⟨wr.heap.size, 0, none⟩ 1 1 [.int .i64 0, .int .i64 (1 + z % t), .int .i64 (z / 4294967296 % 4)] rfl rfl (tri_new _ _ _ _ _) (tri_one _ _ _) (by unfold maxLen; omega) (by omega) (by simp; omega) ?_; intro v1 w1 hown' hgrow _; have B1 := Lib.hid (below_app BB.out hlt R.out hgrow); have O1 := Lib.hid (row_snoc hown'); clear hown' hgrow)
            | fail)
          go_roundw
          case rel =>
            have e : drawGo t g c s (k + 1) = (y, acc ++ [(0, 1 + z % t, z / 4294967296 % 4)]) := by rw [HS.out, SD.out, if_neg (by exact fun h => hB h.2.1)]
            exact ⟨k + 1, by omega, by go_num, by rw [e], by rw [e]; exact O1.out, B1.out⟩
          case measure => simp [intOf]; omega
      · skip
        go_wp2_with (first
          | (at_builtin; refine wpList_append_own _ rfl (.tmp 35) (.tmp 47) 27 rfl w.heap.size 37 i0 (.agg #[.int .i64 0, .int .i64 0, .int .i64 0]) 3 24 Tryd.underlying27 hi hz0 hz1 hz2 rfl (by decide) _ _ _ rfl (Row.below R.out (below1 _ _)) ⟨wr.heap.size, 0, none⟩ 1 1 [.int .i64 0, .int .i64 (1 + z % t), .int .i64 (z / 4294967296 % 4)] rfl rfl (tri_new _ _ _ _ _) (tri_one _ _ _) (by unfold maxLen; omega) (by omega) (by simp; omega) ?_; intro v1 w1 hown' hgrow _; have B1 := Lib.hid (below_app BB.out hlt R.out hgrow); have O1 := Lib.hid (row_snoc hown'); clear hown' hgrow)
          | fail)
        go_roundw
        case rel =>
          have e : drawGo t g c s (k + 1) = (y, acc ++ [(0, 1 + z % t, z / 4294967296 % 4)]) := by rw [HS.out, SD.out, if_neg (by exact fun h => absurd h.1 (by omega))]
          exact ⟨k + 1, by omega, by go_num, by rw [e], by rw [e]; exact O1.out, B1.out⟩
        case measure => simp [intOf]; omega
    · obtain rfl : k = n := by omega
      have hkn2 : ¬ ((k : Int) + 1) ≤ k := by omega
      go_wp2_with fail
      go_ret
      exact ⟨_, rfl, by rw [HD.out]; exact R.out, BB.out⟩
end Go.Proofs.YtpgcnejofnhhfaaDoor
