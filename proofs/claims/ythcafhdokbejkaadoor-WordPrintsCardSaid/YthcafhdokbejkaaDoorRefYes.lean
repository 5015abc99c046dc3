/- The reference's Parse at a text form: it answers the word. -/
import Derived.Test.YthcafhdokbejkaaDoorRefParse
namespace Go.Proofs.YthcafhdokbejkaaDoor
open Go.ChangeShapes Go.WideShapes Go.ChangeAt Go.RowKit
set_option linter.unusedVariables false

theorem dig_at (s : ByteArray) (pre rest : List UInt8) (u M p q : Nat) (hl : s.data.toList = pre ++ (Lib.decDigits u ++ rest)) (hr : ∀ c, rest[0]? = some c → ¬ IsDig c) (hu : u ≤ M) (hs : s.size ≤ 1000) (hM : 9 ≤ M) (hM2 : M < 18446744073709551616) (hp : pre.length = p) (hq : p + (Lib.decDigits u).length = q) (w : World) :
    Calls Tryd.prog 24 #[.string s, .int .i64 (p : Int), .int .u64 (M : Int)] w fun e w' => e = .returned (.tuple #[.int .u64 (u : Int), .int .i64 (q : Int)]) ∧ w = w' := by
  have hz : s.data.toList.length = s.size := by simp
  have ha : p ≤ s.size := by rw [← hz, hl, ← hp]; simp
  refine (digits_any s p M w ha hs hM hM2).mono ?_
  rintro e w' ⟨⟨n, i, rfl, hd⟩, rfl⟩
  rw [hl, ← hp, List.drop_left] at hd
  obtain ⟨rfl, rfl⟩ := hd.of hr hu
  refine ⟨?_, rfl⟩
  rw [hp, ← hq]
  simp
theorem byte_at {s : ByteArray} {pre rest : List UInt8} {c : UInt8} {p : Nat} (hl : s.data.toList = pre ++ c :: rest) (hp : pre.length = p) : ∃ h : p < s.size, s[p] = c := by
  have hz : s.data.toList.length = s.size := by simp
  have h : p < s.size := by rw [← hz, hl, ← hp]; simp
  refine ⟨h, ?_⟩
  have : s.data.toList[p]? = some c := by rw [hl, ← hp, List.getElem?_append_right (Nat.le_refl _)]; simp
  rw [List.getElem?_eq_getElem (by rw [hz]; exact h)] at this
  exact Option.some.inj this
theorem neg_wrap (u : Nat) (h : u ≤ 9223372036854775808) : wrap64 (-(wrap64 (u : Int))) = -(u : Int) := by unfold wrap64; omega
theorem nodig_nil : ∀ c, ([] : List UInt8)[0]? = some c → ¬ IsDig c := by simp
theorem nodig_cons {m : UInt8} (t : List UInt8) (hm : ¬ IsDig m) : ∀ c, (m :: t)[0]? = some c → ¬ IsDig c := by
  intro c hc; simp at hc; subst hc; exact hm
theorem nd46 : ¬ IsDig 46 := by unfold IsDig; decide
theorem nd35 : ¬ IsDig 35 := by unfold IsDig; decide
theorem nd58 : ¬ IsDig 58 := by unfold IsDig; decide
def YesPost (v n r : Int) (w : World) (e : Ending) (w' : World) : Prop := e = .returned (.tuple #[.agg #[.int .i64 v, .int .u32 n, .int .u32 r], .bool true]) ∧ Below w.heap.size w w'

set_option maxRecDepth 100000 in
set_option maxHeartbeats 3200000 in
theorem yes_pos0 (u n x y : Nat) (s : ByteArray) (w : World) (hs : s.size ≤ 300) (hu : u ≤ 9223372036854775807) (hl : s.data.toList = [] ++ (Lib.decDigits u ++ [])) (htx : textOf ((u : Int)) 0 0 = s.data.toList) :
    Calls Tryd.prog 18 #[.string s] w (YesPost ((u : Int)) 0 0 w) := by
  have R := Lib.hid (RI.new w)
  have hz : s.data.toList.length = s.size := by simp
  have hcmp : (textOf ((u : Int)) 0 0 == s.toList) = true := by rw [ByteArray.toList_eq, htx]; simp
  clear htx
  have hq1 : 0 + (Lib.decDigits u).length = s.size := by rw [← hz, hl]; simp; try omega
  have D1 := Lib.hid (fun W => dig_at s [] _ u 9223372036854775807 0 s.size hl nodig_nil hu (by omega) (by omega) (by omega) rfl hq1 W)
  obtain ⟨h0s, h0c⟩ : ∃ h : 0 < s.size, ((s[0].toNat : Int) == 45) = false := by
    have hd := decDigits_dig u
    cases hdd : Lib.decDigits u with
    | nil => exact absurd hdd (dec_ne u)
    | cons c t =>
      rw [hdd] at hl hd
      obtain ⟨h, hb⟩ := byte_at (pre := []) (p := 0) hl rfl
      have := hd c (by simp)
      unfold IsDig at this
      exact ⟨h, by rw [hb, beq_eq_false_iff_ne]; omega⟩
  clear hq1
  have hzz : True := True.intro
  have HZ := Lib.hid hzz
  clear hz hl hzz
  go_enter Tryd.func18, Tryd.ntmps18
  go_upto_region 4 with fail
  generalize (w.alloc (.cells #[.int .i64 0, .int .u32 0, .int .u32 0] 33)).alloc (.cells #[.int .i64 0, .int .u32 0, .int .u32 0] 33) = W0 at *
  obtain ⟨B, hB⟩ : ∃ b, w.heap.size = b := ⟨_, rfl⟩
  rw [hB] at R ⊢
  go_wp2_with fail
  refine (D1.out _).mono ?_
  rintro e w' ⟨rfl, rfl⟩
  obtain ⟨⟨x0, x1, x2⟩, y0, y1, y2⟩ := three_cells R.out.h1
  go_upto_region 14 with fail
  replace R := Lib.hid (R.out.set0 (u : Int))
  generalize W0.setCell ⟨B + 1, 0, none⟩ (.int .i64 (u : Int)) = W1 at *
  clear x0 x1 x2 y0 y1 y2
  obtain ⟨⟨x0, x1, x2⟩, y0, y1, y2⟩ := three_cells R.out.h1
  go_wp2_with fail
  clear x0 x1 x2 y0 y1 y2
  refine (rtext_any ((u : Int)) 0 0 _ (by omega) (by omega) (by omega) (by omega) (by omega) (by omega)).mono ?_
  rintro e W9 ⟨rfl, hb⟩
  replace R := Lib.hid (R.out.below hb)
  clear hb
  obtain ⟨⟨x0, x1, x2⟩, -⟩ := three_cells R.out.h1
  obtain ⟨⟨d0, d1, d2⟩, f0, f1, f2⟩ := three_cells R.out.h0
  have hf := set_three (u := .int .u32 0) (set_three (u := .int .u32 0) (set_three (u := .int .i64 ((u : Int))) R.out.h0 0 (by omega)) 1 (by omega)) 2 (by omega)
  obtain ⟨⟨e0, e1, e2⟩, -⟩ := three_cells hf
  have BF := Lib.hid (((R.out.g.setCell (p := ⟨B, 0, none⟩) (by simp) (.int .i64 ((u : Int)))).setCell (p := ⟨B, 1, none⟩) (by simp) (.int .u32 0)).setCell (p := ⟨B, 2, none⟩) (by simp) (.int .u32 0))
  clear hf
  go_wp2
  refine bodyPost_ret (v := .tuple #[.agg #[.int .i64 ((u : Int)), .int .u32 0, .int .u32 0], .bool true]) (by simp [results, Tryd.f18, go_sem, e0, e1, e2]) rfl ?_
  exact ⟨rfl, hB ▸ BF.out⟩

set_option maxRecDepth 100000 in
set_option maxHeartbeats 3200000 in
theorem yes_pos1 (u n x y : Nat) (s : ByteArray) (w : World) (hs : s.size ≤ 300) (hu : u ≤ 9223372036854775807) (hn : n < 4294967296) (hl : s.data.toList = [] ++ (Lib.decDigits u ++ (46 :: (Lib.decDigits n ++ [])))) (htx : textOf ((u : Int)) (n : Int) 0 = s.data.toList) :
    Calls Tryd.prog 18 #[.string s] w (YesPost ((u : Int)) (n : Int) 0 w) := by
  have R := Lib.hid (RI.new w)
  have hz : s.data.toList.length = s.size := by simp
  have hcmp : (textOf ((u : Int)) (n : Int) 0 == s.toList) = true := by rw [ByteArray.toList_eq, htx]; simp
  clear htx
  obtain ⟨p1, hq1⟩ : ∃ p, 0 + (Lib.decDigits u).length = p := ⟨_, rfl⟩
  have D1 := Lib.hid (fun W => dig_at s [] _ u 9223372036854775807 0 p1 hl (nodig_cons _ nd46) hu (by omega) (by omega) (by omega) rfl hq1 W)
  obtain ⟨h0s, h0c⟩ : ∃ h : 0 < s.size, ((s[0].toNat : Int) == 45) = false := by
    have hd := decDigits_dig u
    cases hdd : Lib.decDigits u with
    | nil => exact absurd hdd (dec_ne u)
    | cons c t =>
      rw [hdd] at hl hd
      obtain ⟨h, hb⟩ := byte_at (pre := []) (p := 0) hl rfl
      have := hd c (by simp)
      unfold IsDig at this
      exact ⟨h, by rw [hb, beq_eq_false_iff_ne]; omega⟩
  have hl1 : s.data.toList = ([] ++ Lib.decDigits u) ++ (46 :: (Lib.decDigits n ++ [])) := by rw [hl]; simp
  have hP1 : ([] ++ Lib.decDigits u).length = p1 := by rw [← hq1]; simp; try omega
  obtain ⟨h1s, h1b⟩ := byte_at hl1 hP1
  have h1c : ((s[p1].toNat : Int) == 46) = true := by rw [h1b]; rfl
  clear h1b
  have hl2 : s.data.toList = (([] ++ Lib.decDigits u) ++ [46]) ++ (Lib.decDigits n ++ []) := by rw [hl1]; simp
  have hP2 : (([] ++ Lib.decDigits u) ++ [46]).length = p1 + 1 := by rw [List.length_append, hP1]; rfl
  have hq2 : p1 + 1 + (Lib.decDigits n).length = s.size := by rw [← hz, hl2, List.length_append, hP2]; simp
  have D2 := Lib.hid (fun W => dig_at s (([] ++ Lib.decDigits u) ++ [46]) _ n 4294967295 (p1 + 1) s.size hl2 nodig_nil (by omega) (by omega) (by omega) (by omega) hP2 hq2 W)
  have HP1 := Lib.hid (show ((p1 : Int) + 1) = ((p1 + 1 : Nat) : Int) by omega)
  clear hl1 hP1 hl2 hP2 hq2 hq1
  have hzz : True := True.intro
  have HZ := Lib.hid hzz
  clear hz hl hzz
  go_enter Tryd.func18, Tryd.ntmps18
  go_upto_region 4 with fail
  generalize (w.alloc (.cells #[.int .i64 0, .int .u32 0, .int .u32 0] 33)).alloc (.cells #[.int .i64 0, .int .u32 0, .int .u32 0] 33) = W0 at *
  obtain ⟨B, hB⟩ : ∃ b, w.heap.size = b := ⟨_, rfl⟩
  rw [hB] at R ⊢
  go_wp2_with fail
  refine (D1.out _).mono ?_
  rintro e w' ⟨rfl, rfl⟩
  obtain ⟨⟨x0, x1, x2⟩, y0, y1, y2⟩ := three_cells R.out.h1
  go_upto_region 14 with fail
  replace R := Lib.hid (R.out.set0 (u : Int))
  generalize W0.setCell ⟨B + 1, 0, none⟩ (.int .i64 (u : Int)) = W1 at *
  clear x0 x1 x2 y0 y1 y2
  go_wp2_with fail
  rw [HP1.out]
  refine (D2.out _).mono ?_
  rintro e w' ⟨rfl, rfl⟩
  obtain ⟨⟨x0, x1, x2⟩, y0, y1, y2⟩ := three_cells R.out.h1
  go_upto_region 19 with fail
  replace R := Lib.hid (R.out.set1 (n : Int))
  generalize W1.setCell ⟨B + 1, 1, none⟩ (.int .u32 (n : Int)) = W2 at *
  clear x0 x1 x2 y0 y1 y2
  obtain ⟨⟨x0, x1, x2⟩, y0, y1, y2⟩ := three_cells R.out.h1
  go_wp2_with fail
  clear x0 x1 x2 y0 y1 y2
  refine (rtext_any ((u : Int)) (n : Int) 0 _ (by omega) (by omega) (by omega) (by omega) (by omega) (by omega)).mono ?_
  rintro e W9 ⟨rfl, hb⟩
  replace R := Lib.hid (R.out.below hb)
  clear hb
  obtain ⟨⟨x0, x1, x2⟩, -⟩ := three_cells R.out.h1
  obtain ⟨⟨d0, d1, d2⟩, f0, f1, f2⟩ := three_cells R.out.h0
  have hf := set_three (u := .int .u32 0) (set_three (u := .int .u32 (n : Int)) (set_three (u := .int .i64 ((u : Int))) R.out.h0 0 (by omega)) 1 (by omega)) 2 (by omega)
  obtain ⟨⟨e0, e1, e2⟩, -⟩ := three_cells hf
  have BF := Lib.hid (((R.out.g.setCell (p := ⟨B, 0, none⟩) (by simp) (.int .i64 ((u : Int)))).setCell (p := ⟨B, 1, none⟩) (by simp) (.int .u32 (n : Int))).setCell (p := ⟨B, 2, none⟩) (by simp) (.int .u32 0))
  clear hf
  go_wp2
  refine bodyPost_ret (v := .tuple #[.agg #[.int .i64 ((u : Int)), .int .u32 (n : Int), .int .u32 0], .bool true]) (by simp [results, Tryd.f18, go_sem, e0, e1, e2]) rfl ?_
  exact ⟨rfl, hB ▸ BF.out⟩

set_option maxRecDepth 100000 in
set_option maxHeartbeats 3200000 in
theorem yes_pos2 (u n x y : Nat) (s : ByteArray) (w : World) (hs : s.size ≤ 300) (hu : u ≤ 9223372036854775807) (hn : n < 4294967296) (hx : 1 ≤ x ∧ x ≤ 72) (hy : 1 ≤ y ∧ y ≤ 16777215) (hl : s.data.toList = [] ++ (Lib.decDigits u ++ (46 :: (Lib.decDigits n ++ (35 :: (Lib.decDigits x ++ (58 :: (Lib.decDigits y ++ [])))))))) (htx : textOf ((u : Int)) (n : Int) ((x : Int) * 16777216 + (y : Int)) = s.data.toList) :
    Calls Tryd.prog 18 #[.string s] w (YesPost ((u : Int)) (n : Int) ((x : Int) * 16777216 + (y : Int)) w) := by
  have R := Lib.hid (RI.new w)
  have hz : s.data.toList.length = s.size := by simp
  have hcmp : (textOf ((u : Int)) (n : Int) ((x : Int) * 16777216 + (y : Int)) == s.toList) = true := by rw [ByteArray.toList_eq, htx]; simp
  clear htx
  obtain ⟨p1, hq1⟩ : ∃ p, 0 + (Lib.decDigits u).length = p := ⟨_, rfl⟩
  have D1 := Lib.hid (fun W => dig_at s [] _ u 9223372036854775807 0 p1 hl (nodig_cons _ nd46) hu (by omega) (by omega) (by omega) rfl hq1 W)
  obtain ⟨h0s, h0c⟩ : ∃ h : 0 < s.size, ((s[0].toNat : Int) == 45) = false := by
    have hd := decDigits_dig u
    cases hdd : Lib.decDigits u with
    | nil => exact absurd hdd (dec_ne u)
    | cons c t =>
      rw [hdd] at hl hd
      obtain ⟨h, hb⟩ := byte_at (pre := []) (p := 0) hl rfl
      have := hd c (by simp)
      unfold IsDig at this
      exact ⟨h, by rw [hb, beq_eq_false_iff_ne]; omega⟩
  have hl1 : s.data.toList = ([] ++ Lib.decDigits u) ++ (46 :: (Lib.decDigits n ++ (35 :: (Lib.decDigits x ++ (58 :: (Lib.decDigits y ++ [])))))) := by rw [hl]; simp
  have hP1 : ([] ++ Lib.decDigits u).length = p1 := by rw [← hq1]; simp; try omega
  obtain ⟨h1s, h1b⟩ := byte_at hl1 hP1
  have h1c : ((s[p1].toNat : Int) == 46) = true := by rw [h1b]; rfl
  clear h1b
  have hl2 : s.data.toList = (([] ++ Lib.decDigits u) ++ [46]) ++ (Lib.decDigits n ++ (35 :: (Lib.decDigits x ++ (58 :: (Lib.decDigits y ++ []))))) := by rw [hl1]; simp
  have hP2 : (([] ++ Lib.decDigits u) ++ [46]).length = p1 + 1 := by rw [List.length_append, hP1]; rfl
  obtain ⟨p2, hq2⟩ : ∃ p, p1 + 1 + (Lib.decDigits n).length = p := ⟨_, rfl⟩
  have D2 := Lib.hid (fun W => dig_at s (([] ++ Lib.decDigits u) ++ [46]) _ n 4294967295 (p1 + 1) p2 hl2 (nodig_cons _ nd35) (by omega) (by omega) (by omega) (by omega) hP2 hq2 W)
  have HP1 := Lib.hid (show ((p1 : Int) + 1) = ((p1 + 1 : Nat) : Int) by omega)
  have hl3 : s.data.toList = ((([] ++ Lib.decDigits u) ++ [46]) ++ Lib.decDigits n) ++ (35 :: (Lib.decDigits x ++ (58 :: (Lib.decDigits y ++ [])))) := by rw [hl2]; simp
  have hP3 : ((([] ++ Lib.decDigits u) ++ [46]) ++ Lib.decDigits n).length = p2 := by rw [List.length_append, hP2, hq2]
  obtain ⟨h3s, h3b⟩ := byte_at hl3 hP3
  have h3c : ((s[p2].toNat : Int) == 35) = true := by rw [h3b]; rfl
  clear h3b
  have hl4 : s.data.toList = (((([] ++ Lib.decDigits u) ++ [46]) ++ Lib.decDigits n) ++ [35]) ++ (Lib.decDigits x ++ (58 :: (Lib.decDigits y ++ []))) := by rw [hl3]; simp
  have hP4 : (((([] ++ Lib.decDigits u) ++ [46]) ++ Lib.decDigits n) ++ [35]).length = p2 + 1 := by rw [List.length_append, hP3]; rfl
  obtain ⟨p3, hq3⟩ : ∃ p, p2 + 1 + (Lib.decDigits x).length = p := ⟨_, rfl⟩
  have D3 := Lib.hid (fun W => dig_at s (((([] ++ Lib.decDigits u) ++ [46]) ++ Lib.decDigits n) ++ [35]) _ x 100 (p2 + 1) p3 hl4 (nodig_cons _ nd58) (by omega) (by omega) (by omega) (by omega) hP4 hq3 W)
  have hl5 : s.data.toList = ((((([] ++ Lib.decDigits u) ++ [46]) ++ Lib.decDigits n) ++ [35]) ++ Lib.decDigits x) ++ (58 :: (Lib.decDigits y ++ [])) := by rw [hl4]; simp
  have hP5 : ((((([] ++ Lib.decDigits u) ++ [46]) ++ Lib.decDigits n) ++ [35]) ++ Lib.decDigits x).length = p3 := by rw [List.length_append, hP4, hq3]
  obtain ⟨h5s, h5b⟩ := byte_at hl5 hP5
  have h5c : ((s[p3].toNat : Int) != 58) = false := by rw [h5b]; rfl
  clear h5b
  have hl6 : s.data.toList = (((((([] ++ Lib.decDigits u) ++ [46]) ++ Lib.decDigits n) ++ [35]) ++ Lib.decDigits x) ++ [58]) ++ (Lib.decDigits y ++ []) := by rw [hl5]; simp
  have hP6 : (((((([] ++ Lib.decDigits u) ++ [46]) ++ Lib.decDigits n) ++ [35]) ++ Lib.decDigits x) ++ [58]).length = p3 + 1 := by rw [List.length_append, hP5]; rfl
  have hq6 : p3 + 1 + (Lib.decDigits y).length = s.size := by rw [← hz, hl6, List.length_append, hP6]; simp
  have D4 := Lib.hid (fun W => dig_at s (((((([] ++ Lib.decDigits u) ++ [46]) ++ Lib.decDigits n) ++ [35]) ++ Lib.decDigits x) ++ [58]) _ y 16777215 (p3 + 1) s.size hl6 nodig_nil (by omega) (by omega) (by omega) (by omega) hP6 hq6 W)
  have HP2 := Lib.hid (show ((p2 : Int) + 1) = ((p2 + 1 : Nat) : Int) by omega)
  have HP3 := Lib.hid (show ((p3 : Int) + 1) = ((p3 + 1 : Nat) : Int) by omega)
  clear hl1 hP1 hl2 hP2 hq2 hl3 hP3 hl4 hP4 hq3 hl5 hP5 hl6 hP6 hq6 hq1
  have hzz : True := True.intro
  have HZ := Lib.hid hzz
  clear hz hl hzz
  go_enter Tryd.func18, Tryd.ntmps18
  go_upto_region 4 with fail
  generalize (w.alloc (.cells #[.int .i64 0, .int .u32 0, .int .u32 0] 33)).alloc (.cells #[.int .i64 0, .int .u32 0, .int .u32 0] 33) = W0 at *
  obtain ⟨B, hB⟩ : ∃ b, w.heap.size = b := ⟨_, rfl⟩
  rw [hB] at R ⊢
  go_wp2_with fail
  refine (D1.out _).mono ?_
  rintro e w' ⟨rfl, rfl⟩
  obtain ⟨⟨x0, x1, x2⟩, y0, y1, y2⟩ := three_cells R.out.h1
  go_upto_region 14 with fail
  replace R := Lib.hid (R.out.set0 (u : Int))
  generalize W0.setCell ⟨B + 1, 0, none⟩ (.int .i64 (u : Int)) = W1 at *
  clear x0 x1 x2 y0 y1 y2
  go_wp2_with fail
  rw [HP1.out]
  refine (D2.out _).mono ?_
  rintro e w' ⟨rfl, rfl⟩
  obtain ⟨⟨x0, x1, x2⟩, y0, y1, y2⟩ := three_cells R.out.h1
  go_upto_region 19 with fail
  replace R := Lib.hid (R.out.set1 (n : Int))
  generalize W1.setCell ⟨B + 1, 1, none⟩ (.int .u32 (n : Int)) = W2 at *
  clear x0 x1 x2 y0 y1 y2
  go_wp2_with fail
  rw [HP2.out]
  refine (D3.out _).mono ?_
  rintro e w' ⟨rfl, rfl⟩
  go_wp2_with fail
  rw [HP3.out]
  refine (D4.out _).mono ?_
  rintro e w' ⟨rfl, rfl⟩
  go_wp2_with fail
  refine (rref_ok (x : Int) (y : Int) _ (by omega) (by omega) (by omega) (by omega)).mono ?_
  rintro e w' ⟨rfl, rfl⟩
  obtain ⟨⟨x0, x1, x2⟩, y0, y1, y2⟩ := three_cells R.out.h1
  go_upto_region 30 with fail
  replace R := Lib.hid (R.out.set2 ((x : Int) * 16777216 + (y : Int)))
  generalize W2.setCell ⟨B + 1, 2, none⟩ (.int .u32 ((x : Int) * 16777216 + (y : Int))) = W3 at *
  clear x0 x1 x2 y0 y1 y2
  obtain ⟨⟨x0, x1, x2⟩, y0, y1, y2⟩ := three_cells R.out.h1
  go_wp2_with fail
  clear x0 x1 x2 y0 y1 y2
  refine (rtext_any ((u : Int)) (n : Int) ((x : Int) * 16777216 + (y : Int)) _ (by omega) (by omega) (by omega) (by omega) (by omega) (by omega)).mono ?_
  rintro e W9 ⟨rfl, hb⟩
  replace R := Lib.hid (R.out.below hb)
  clear hb
  obtain ⟨⟨x0, x1, x2⟩, -⟩ := three_cells R.out.h1
  obtain ⟨⟨d0, d1, d2⟩, f0, f1, f2⟩ := three_cells R.out.h0
  have hf := set_three (u := .int .u32 ((x : Int) * 16777216 + (y : Int))) (set_three (u := .int .u32 (n : Int)) (set_three (u := .int .i64 ((u : Int))) R.out.h0 0 (by omega)) 1 (by omega)) 2 (by omega)
  obtain ⟨⟨e0, e1, e2⟩, -⟩ := three_cells hf
  have BF := Lib.hid (((R.out.g.setCell (p := ⟨B, 0, none⟩) (by simp) (.int .i64 ((u : Int)))).setCell (p := ⟨B, 1, none⟩) (by simp) (.int .u32 (n : Int))).setCell (p := ⟨B, 2, none⟩) (by simp) (.int .u32 ((x : Int) * 16777216 + (y : Int))))
  clear hf
  go_wp2
  refine bodyPost_ret (v := .tuple #[.agg #[.int .i64 ((u : Int)), .int .u32 (n : Int), .int .u32 ((x : Int) * 16777216 + (y : Int))], .bool true]) (by simp [results, Tryd.f18, go_sem, e0, e1, e2]) rfl ?_
  exact ⟨rfl, hB ▸ BF.out⟩

set_option maxRecDepth 100000 in
set_option maxHeartbeats 3200000 in
theorem yes_neg0 (u n x y : Nat) (s : ByteArray) (w : World) (hs : s.size ≤ 300) (hu : u ≤ 9223372036854775808) (hu0 : 0 < u) (hl : s.data.toList = [45] ++ (Lib.decDigits u ++ [])) (htx : textOf (-(u : Int)) 0 0 = s.data.toList) :
    Calls Tryd.prog 18 #[.string s] w (YesPost (-(u : Int)) 0 0 w) := by
  have R := Lib.hid (RI.new w)
  have hz : s.data.toList.length = s.size := by simp
  have hcmp : (textOf (-(u : Int)) 0 0 == s.toList) = true := by rw [ByteArray.toList_eq, htx]; simp
  clear htx
  have hq1 : 1 + (Lib.decDigits u).length = s.size := by rw [← hz, hl]; simp; try omega
  have D1 := Lib.hid (fun W => dig_at s [45] _ u 9223372036854775808 1 s.size hl nodig_nil hu (by omega) (by omega) (by omega) rfl hq1 W)
  obtain ⟨h0s, h0b⟩ := byte_at (pre := []) (p := 0) hl rfl
  have h0c : ((s[0].toNat : Int) == 45) = true := by rw [h0b]; rfl
  clear h0b
  clear hq1
  obtain ⟨z, hzz⟩ : ∃ z, wrap64 (u : Int) = z := ⟨_, rfl⟩
  have hzn : wrap64 (-z) = -(u : Int) := by rw [← hzz]; exact neg_wrap u hu
  have HZ := Lib.hid hzz
  clear hz hl hzz
  have HZN := Lib.hid hzn
  clear hzn
  go_enter Tryd.func18, Tryd.ntmps18
  go_upto_region 4 with fail
  generalize (w.alloc (.cells #[.int .i64 0, .int .u32 0, .int .u32 0] 33)).alloc (.cells #[.int .i64 0, .int .u32 0, .int .u32 0] 33) = W0 at *
  obtain ⟨B, hB⟩ : ∃ b, w.heap.size = b := ⟨_, rfl⟩
  rw [hB] at R ⊢
  go_wp2_with fail
  refine (D1.out _).mono ?_
  rintro e w' ⟨rfl, rfl⟩
  obtain ⟨⟨x0, x1, x2⟩, y0, y1, y2⟩ := three_cells R.out.h1
  have hset := set_three (u := .int .i64 (wrap64 (u : Int))) R.out.h1 0 (by omega)
  obtain ⟨⟨k0, k1, k2⟩, l0, l1, l2⟩ := three_cells hset
  clear hset
  go_upto_region 14 with fail
  replace R := Lib.hid ((R.out.set0 (wrap64 (u : Int))).set0 (wrap64 (-(wrap64 (u : Int)))))
  rw [HZ.out, HZN.out] at R
  rw [HZ.out, HZN.out]
  clear k0 k1 k2 l0 l1 l2
  generalize (W0.setCell ⟨B + 1, 0, none⟩ (.int .i64 z)).setCell ⟨B + 1, 0, none⟩ (.int .i64 (-(u : Int))) = W1 at *
  clear x0 x1 x2 y0 y1 y2
  obtain ⟨⟨x0, x1, x2⟩, y0, y1, y2⟩ := three_cells R.out.h1
  go_wp2_with fail
  clear x0 x1 x2 y0 y1 y2
  refine (rtext_any (-(u : Int)) 0 0 _ (by omega) (by omega) (by omega) (by omega) (by omega) (by omega)).mono ?_
  rintro e W9 ⟨rfl, hb⟩
  replace R := Lib.hid (R.out.below hb)
  clear hb
  obtain ⟨⟨x0, x1, x2⟩, -⟩ := three_cells R.out.h1
  obtain ⟨⟨d0, d1, d2⟩, f0, f1, f2⟩ := three_cells R.out.h0
  have hf := set_three (u := .int .u32 0) (set_three (u := .int .u32 0) (set_three (u := .int .i64 (-(u : Int))) R.out.h0 0 (by omega)) 1 (by omega)) 2 (by omega)
  obtain ⟨⟨e0, e1, e2⟩, -⟩ := three_cells hf
  have BF := Lib.hid (((R.out.g.setCell (p := ⟨B, 0, none⟩) (by simp) (.int .i64 (-(u : Int)))).setCell (p := ⟨B, 1, none⟩) (by simp) (.int .u32 0)).setCell (p := ⟨B, 2, none⟩) (by simp) (.int .u32 0))
  clear hf
  go_wp2
  refine bodyPost_ret (v := .tuple #[.agg #[.int .i64 (-(u : Int)), .int .u32 0, .int .u32 0], .bool true]) (by simp [results, Tryd.f18, go_sem, e0, e1, e2]) rfl ?_
  exact ⟨rfl, hB ▸ BF.out⟩

set_option maxRecDepth 100000 in
set_option maxHeartbeats 3200000 in
theorem yes_neg1 (u n x y : Nat) (s : ByteArray) (w : World) (hs : s.size ≤ 300) (hu : u ≤ 9223372036854775808) (hu0 : 0 < u) (hn : n < 4294967296) (hl : s.data.toList = [45] ++ (Lib.decDigits u ++ (46 :: (Lib.decDigits n ++ [])))) (htx : textOf (-(u : Int)) (n : Int) 0 = s.data.toList) :
    Calls Tryd.prog 18 #[.string s] w (YesPost (-(u : Int)) (n : Int) 0 w) := by
  have R := Lib.hid (RI.new w)
  have hz : s.data.toList.length = s.size := by simp
  have hcmp : (textOf (-(u : Int)) (n : Int) 0 == s.toList) = true := by rw [ByteArray.toList_eq, htx]; simp
  clear htx
  obtain ⟨p1, hq1⟩ : ∃ p, 1 + (Lib.decDigits u).length = p := ⟨_, rfl⟩
  have D1 := Lib.hid (fun W => dig_at s [45] _ u 9223372036854775808 1 p1 hl (nodig_cons _ nd46) hu (by omega) (by omega) (by omega) rfl hq1 W)
  obtain ⟨h0s, h0b⟩ := byte_at (pre := []) (p := 0) hl rfl
  have h0c : ((s[0].toNat : Int) == 45) = true := by rw [h0b]; rfl
  clear h0b
  have hl1 : s.data.toList = ([45] ++ Lib.decDigits u) ++ (46 :: (Lib.decDigits n ++ [])) := by rw [hl]; simp
  have hP1 : ([45] ++ Lib.decDigits u).length = p1 := by rw [← hq1]; simp; try omega
  obtain ⟨h1s, h1b⟩ := byte_at hl1 hP1
  have h1c : ((s[p1].toNat : Int) == 46) = true := by rw [h1b]; rfl
  clear h1b
  have hl2 : s.data.toList = (([45] ++ Lib.decDigits u) ++ [46]) ++ (Lib.decDigits n ++ []) := by rw [hl1]; simp
  have hP2 : (([45] ++ Lib.decDigits u) ++ [46]).length = p1 + 1 := by rw [List.length_append, hP1]; rfl
  have hq2 : p1 + 1 + (Lib.decDigits n).length = s.size := by rw [← hz, hl2, List.length_append, hP2]; simp
  have D2 := Lib.hid (fun W => dig_at s (([45] ++ Lib.decDigits u) ++ [46]) _ n 4294967295 (p1 + 1) s.size hl2 nodig_nil (by omega) (by omega) (by omega) (by omega) hP2 hq2 W)
  have HP1 := Lib.hid (show ((p1 : Int) + 1) = ((p1 + 1 : Nat) : Int) by omega)
  clear hl1 hP1 hl2 hP2 hq2 hq1
  obtain ⟨z, hzz⟩ : ∃ z, wrap64 (u : Int) = z := ⟨_, rfl⟩
  have hzn : wrap64 (-z) = -(u : Int) := by rw [← hzz]; exact neg_wrap u hu
  have HZ := Lib.hid hzz
  clear hz hl hzz
  have HZN := Lib.hid hzn
  clear hzn
  go_enter Tryd.func18, Tryd.ntmps18
  go_upto_region 4 with fail
  generalize (w.alloc (.cells #[.int .i64 0, .int .u32 0, .int .u32 0] 33)).alloc (.cells #[.int .i64 0, .int .u32 0, .int .u32 0] 33) = W0 at *
  obtain ⟨B, hB⟩ : ∃ b, w.heap.size = b := ⟨_, rfl⟩
  rw [hB] at R ⊢
  go_wp2_with fail
  refine (D1.out _).mono ?_
  rintro e w' ⟨rfl, rfl⟩
  obtain ⟨⟨x0, x1, x2⟩, y0, y1, y2⟩ := three_cells R.out.h1
  have hset := set_three (u := .int .i64 (wrap64 (u : Int))) R.out.h1 0 (by omega)
  obtain ⟨⟨k0, k1, k2⟩, l0, l1, l2⟩ := three_cells hset
  clear hset
  go_upto_region 14 with fail
  replace R := Lib.hid ((R.out.set0 (wrap64 (u : Int))).set0 (wrap64 (-(wrap64 (u : Int)))))
  rw [HZ.out, HZN.out] at R
  rw [HZ.out, HZN.out]
  clear k0 k1 k2 l0 l1 l2
  generalize (W0.setCell ⟨B + 1, 0, none⟩ (.int .i64 z)).setCell ⟨B + 1, 0, none⟩ (.int .i64 (-(u : Int))) = W1 at *
  clear x0 x1 x2 y0 y1 y2
  go_wp2_with fail
  rw [HP1.out]
  refine (D2.out _).mono ?_
  rintro e w' ⟨rfl, rfl⟩
  obtain ⟨⟨x0, x1, x2⟩, y0, y1, y2⟩ := three_cells R.out.h1
  go_upto_region 19 with fail
  replace R := Lib.hid (R.out.set1 (n : Int))
  generalize W1.setCell ⟨B + 1, 1, none⟩ (.int .u32 (n : Int)) = W2 at *
  clear x0 x1 x2 y0 y1 y2
  obtain ⟨⟨x0, x1, x2⟩, y0, y1, y2⟩ := three_cells R.out.h1
  go_wp2_with fail
  clear x0 x1 x2 y0 y1 y2
  refine (rtext_any (-(u : Int)) (n : Int) 0 _ (by omega) (by omega) (by omega) (by omega) (by omega) (by omega)).mono ?_
  rintro e W9 ⟨rfl, hb⟩
  replace R := Lib.hid (R.out.below hb)
  clear hb
  obtain ⟨⟨x0, x1, x2⟩, -⟩ := three_cells R.out.h1
  obtain ⟨⟨d0, d1, d2⟩, f0, f1, f2⟩ := three_cells R.out.h0
  have hf := set_three (u := .int .u32 0) (set_three (u := .int .u32 (n : Int)) (set_three (u := .int .i64 (-(u : Int))) R.out.h0 0 (by omega)) 1 (by omega)) 2 (by omega)
  obtain ⟨⟨e0, e1, e2⟩, -⟩ := three_cells hf
  have BF := Lib.hid (((R.out.g.setCell (p := ⟨B, 0, none⟩) (by simp) (.int .i64 (-(u : Int)))).setCell (p := ⟨B, 1, none⟩) (by simp) (.int .u32 (n : Int))).setCell (p := ⟨B, 2, none⟩) (by simp) (.int .u32 0))
  clear hf
  go_wp2
  refine bodyPost_ret (v := .tuple #[.agg #[.int .i64 (-(u : Int)), .int .u32 (n : Int), .int .u32 0], .bool true]) (by simp [results, Tryd.f18, go_sem, e0, e1, e2]) rfl ?_
  exact ⟨rfl, hB ▸ BF.out⟩

set_option maxRecDepth 100000 in
set_option maxHeartbeats 3200000 in
theorem yes_neg2 (u n x y : Nat) (s : ByteArray) (w : World) (hs : s.size ≤ 300) (hu : u ≤ 9223372036854775808) (hu0 : 0 < u) (hn : n < 4294967296) (hx : 1 ≤ x ∧ x ≤ 72) (hy : 1 ≤ y ∧ y ≤ 16777215) (hl : s.data.toList = [45] ++ (Lib.decDigits u ++ (46 :: (Lib.decDigits n ++ (35 :: (Lib.decDigits x ++ (58 :: (Lib.decDigits y ++ [])))))))) (htx : textOf (-(u : Int)) (n : Int) ((x : Int) * 16777216 + (y : Int)) = s.data.toList) :
    Calls Tryd.prog 18 #[.string s] w (YesPost (-(u : Int)) (n : Int) ((x : Int) * 16777216 + (y : Int)) w) := by
  have R := Lib.hid (RI.new w)
  have hz : s.data.toList.length = s.size := by simp
  have hcmp : (textOf (-(u : Int)) (n : Int) ((x : Int) * 16777216 + (y : Int)) == s.toList) = true := by rw [ByteArray.toList_eq, htx]; simp
  clear htx
  obtain ⟨p1, hq1⟩ : ∃ p, 1 + (Lib.decDigits u).length = p := ⟨_, rfl⟩
  have D1 := Lib.hid (fun W => dig_at s [45] _ u 9223372036854775808 1 p1 hl (nodig_cons _ nd46) hu (by omega) (by omega) (by omega) rfl hq1 W)
  obtain ⟨h0s, h0b⟩ := byte_at (pre := []) (p := 0) hl rfl
  have h0c : ((s[0].toNat : Int) == 45) = true := by rw [h0b]; rfl
  clear h0b
  have hl1 : s.data.toList = ([45] ++ Lib.decDigits u) ++ (46 :: (Lib.decDigits n ++ (35 :: (Lib.decDigits x ++ (58 :: (Lib.decDigits y ++ [])))))) := by rw [hl]; simp
  have hP1 : ([45] ++ Lib.decDigits u).length = p1 := by rw [← hq1]; simp; try omega
  obtain ⟨h1s, h1b⟩ := byte_at hl1 hP1
  have h1c : ((s[p1].toNat : Int) == 46) = true := by rw [h1b]; rfl
  clear h1b
  have hl2 : s.data.toList = (([45] ++ Lib.decDigits u) ++ [46]) ++ (Lib.decDigits n ++ (35 :: (Lib.decDigits x ++ (58 :: (Lib.decDigits y ++ []))))) := by rw [hl1]; simp
  have hP2 : (([45] ++ Lib.decDigits u) ++ [46]).length = p1 + 1 := by rw [List.length_append, hP1]; rfl
  obtain ⟨p2, hq2⟩ : ∃ p, p1 + 1 + (Lib.decDigits n).length = p := ⟨_, rfl⟩
  have D2 := Lib.hid (fun W => dig_at s (([45] ++ Lib.decDigits u) ++ [46]) _ n 4294967295 (p1 + 1) p2 hl2 (nodig_cons _ nd35) (by omega) (by omega) (by omega) (by omega) hP2 hq2 W)
  have HP1 := Lib.hid (show ((p1 : Int) + 1) = ((p1 + 1 : Nat) : Int) by omega)
  have hl3 : s.data.toList = ((([45] ++ Lib.decDigits u) ++ [46]) ++ Lib.decDigits n) ++ (35 :: (Lib.decDigits x ++ (58 :: (Lib.decDigits y ++ [])))) := by rw [hl2]; simp
  have hP3 : ((([45] ++ Lib.decDigits u) ++ [46]) ++ Lib.decDigits n).length = p2 := by rw [List.length_append, hP2, hq2]
  obtain ⟨h3s, h3b⟩ := byte_at hl3 hP3
  have h3c : ((s[p2].toNat : Int) == 35) = true := by rw [h3b]; rfl
  clear h3b
  have hl4 : s.data.toList = (((([45] ++ Lib.decDigits u) ++ [46]) ++ Lib.decDigits n) ++ [35]) ++ (Lib.decDigits x ++ (58 :: (Lib.decDigits y ++ []))) := by rw [hl3]; simp
  have hP4 : (((([45] ++ Lib.decDigits u) ++ [46]) ++ Lib.decDigits n) ++ [35]).length = p2 + 1 := by rw [List.length_append, hP3]; rfl
  obtain ⟨p3, hq3⟩ : ∃ p, p2 + 1 + (Lib.decDigits x).length = p := ⟨_, rfl⟩
  have D3 := Lib.hid (fun W => dig_at s (((([45] ++ Lib.decDigits u) ++ [46]) ++ Lib.decDigits n) ++ [35]) _ x 100 (p2 + 1) p3 hl4 (nodig_cons _ nd58) (by omega) (by omega) (by omega) (by omega) hP4 hq3 W)
  have hl5 : s.data.toList = ((((([45] ++ Lib.decDigits u) ++ [46]) ++ Lib.decDigits n) ++ [35]) ++ Lib.decDigits x) ++ (58 :: (Lib.decDigits y ++ [])) := by rw [hl4]; simp
  have hP5 : ((((([45] ++ Lib.decDigits u) ++ [46]) ++ Lib.decDigits n) ++ [35]) ++ Lib.decDigits x).length = p3 := by rw [List.length_append, hP4, hq3]
  obtain ⟨h5s, h5b⟩ := byte_at hl5 hP5
  have h5c : ((s[p3].toNat : Int) != 58) = false := by rw [h5b]; rfl
  clear h5b
  have hl6 : s.data.toList = (((((([45] ++ Lib.decDigits u) ++ [46]) ++ Lib.decDigits n) ++ [35]) ++ Lib.decDigits x) ++ [58]) ++ (Lib.decDigits y ++ []) := by rw [hl5]; simp
  have hP6 : (((((([45] ++ Lib.decDigits u) ++ [46]) ++ Lib.decDigits n) ++ [35]) ++ Lib.decDigits x) ++ [58]).length = p3 + 1 := by rw [List.length_append, hP5]; rfl
  have hq6 : p3 + 1 + (Lib.decDigits y).length = s.size := by rw [← hz, hl6, List.length_append, hP6]; simp
  have D4 := Lib.hid (fun W => dig_at s (((((([45] ++ Lib.decDigits u) ++ [46]) ++ Lib.decDigits n) ++ [35]) ++ Lib.decDigits x) ++ [58]) _ y 16777215 (p3 + 1) s.size hl6 nodig_nil (by omega) (by omega) (by omega) (by omega) hP6 hq6 W)
  have HP2 := Lib.hid (show ((p2 : Int) + 1) = ((p2 + 1 : Nat) : Int) by omega)
  have HP3 := Lib.hid (show ((p3 : Int) + 1) = ((p3 + 1 : Nat) : Int) by omega)
  clear hl1 hP1 hl2 hP2 hq2 hl3 hP3 hl4 hP4 hq3 hl5 hP5 hl6 hP6 hq6 hq1
  obtain ⟨z, hzz⟩ : ∃ z, wrap64 (u : Int) = z := ⟨_, rfl⟩
  have hzn : wrap64 (-z) = -(u : Int) := by rw [← hzz]; exact neg_wrap u hu
  have HZ := Lib.hid hzz
  clear hz hl hzz
  have HZN := Lib.hid hzn
  clear hzn
  go_enter Tryd.func18, Tryd.ntmps18
  go_upto_region 4 with fail
  generalize (w.alloc (.cells #[.int .i64 0, .int .u32 0, .int .u32 0] 33)).alloc (.cells #[.int .i64 0, .int .u32 0, .int .u32 0] 33) = W0 at *
  obtain ⟨B, hB⟩ : ∃ b, w.heap.size = b := ⟨_, rfl⟩
  rw [hB] at R ⊢
  go_wp2_with fail
  refine (D1.out _).mono ?_
  rintro e w' ⟨rfl, rfl⟩
  obtain ⟨⟨x0, x1, x2⟩, y0, y1, y2⟩ := three_cells R.out.h1
  have hset := set_three (u := .int .i64 (wrap64 (u : Int))) R.out.h1 0 (by omega)
  obtain ⟨⟨k0, k1, k2⟩, l0, l1, l2⟩ := three_cells hset
  clear hset
  go_upto_region 14 with fail
  replace R := Lib.hid ((R.out.set0 (wrap64 (u : Int))).set0 (wrap64 (-(wrap64 (u : Int)))))
  rw [HZ.out, HZN.out] at R
  rw [HZ.out, HZN.out]
  clear k0 k1 k2 l0 l1 l2
  generalize (W0.setCell ⟨B + 1, 0, none⟩ (.int .i64 z)).setCell ⟨B + 1, 0, none⟩ (.int .i64 (-(u : Int))) = W1 at *
  clear x0 x1 x2 y0 y1 y2
  go_wp2_with fail
  rw [HP1.out]
  refine (D2.out _).mono ?_
  rintro e w' ⟨rfl, rfl⟩
  obtain ⟨⟨x0, x1, x2⟩, y0, y1, y2⟩ := three_cells R.out.h1
  go_upto_region 19 with fail
  replace R := Lib.hid (R.out.set1 (n : Int))
  generalize W1.setCell ⟨B + 1, 1, none⟩ (.int .u32 (n : Int)) = W2 at *
  clear x0 x1 x2 y0 y1 y2
  go_wp2_with fail
  rw [HP2.out]
  refine (D3.out _).mono ?_
  rintro e w' ⟨rfl, rfl⟩
  go_wp2_with fail
  rw [HP3.out]
  refine (D4.out _).mono ?_
  rintro e w' ⟨rfl, rfl⟩
  go_wp2_with fail
  refine (rref_ok (x : Int) (y : Int) _ (by omega) (by omega) (by omega) (by omega)).mono ?_
  rintro e w' ⟨rfl, rfl⟩
  obtain ⟨⟨x0, x1, x2⟩, y0, y1, y2⟩ := three_cells R.out.h1
  go_upto_region 30 with fail
  replace R := Lib.hid (R.out.set2 ((x : Int) * 16777216 + (y : Int)))
  generalize W2.setCell ⟨B + 1, 2, none⟩ (.int .u32 ((x : Int) * 16777216 + (y : Int))) = W3 at *
  clear x0 x1 x2 y0 y1 y2
  obtain ⟨⟨x0, x1, x2⟩, y0, y1, y2⟩ := three_cells R.out.h1
  go_wp2_with fail
  clear x0 x1 x2 y0 y1 y2
  refine (rtext_any (-(u : Int)) (n : Int) ((x : Int) * 16777216 + (y : Int)) _ (by omega) (by omega) (by omega) (by omega) (by omega) (by omega)).mono ?_
  rintro e W9 ⟨rfl, hb⟩
  replace R := Lib.hid (R.out.below hb)
  clear hb
  obtain ⟨⟨x0, x1, x2⟩, -⟩ := three_cells R.out.h1
  obtain ⟨⟨d0, d1, d2⟩, f0, f1, f2⟩ := three_cells R.out.h0
  have hf := set_three (u := .int .u32 ((x : Int) * 16777216 + (y : Int))) (set_three (u := .int .u32 (n : Int)) (set_three (u := .int .i64 (-(u : Int))) R.out.h0 0 (by omega)) 1 (by omega)) 2 (by omega)
  obtain ⟨⟨e0, e1, e2⟩, -⟩ := three_cells hf
  have BF := Lib.hid (((R.out.g.setCell (p := ⟨B, 0, none⟩) (by simp) (.int .i64 (-(u : Int)))).setCell (p := ⟨B, 1, none⟩) (by simp) (.int .u32 (n : Int))).setCell (p := ⟨B, 2, none⟩) (by simp) (.int .u32 ((x : Int) * 16777216 + (y : Int))))
  clear hf
  go_wp2
  refine bodyPost_ret (v := .tuple #[.agg #[.int .i64 (-(u : Int)), .int .u32 (n : Int), .int .u32 ((x : Int) * 16777216 + (y : Int))], .bool true]) (by simp [results, Tryd.f18, go_sem, e0, e1, e2]) rfl ?_
  exact ⟨rfl, hB ▸ BF.out⟩
theorem rparse_yes (v n r : Int) (s : ByteArray) (w : World) (hs : s.size ≤ 300) (v0 : -9223372036854775808 ≤ v) (v1 : v ≤ 9223372036854775807) (n0 : 0 ≤ n) (n1 : n < 4294967296) (hr : r = 0 ∨ Good r) (hl : s.data.toList = textOf v n r) :
    Calls Tryd.prog 18 #[.string s] w (YesPost v n r w) := by
  have htx := hl.symm
  obtain ⟨k, rfl⟩ : ∃ k : Nat, n = (k : Int) := ⟨n.toNat, by omega⟩
  have hi : ∀ t, Lib.itoa v ++ t = if v < 0 then [45] ++ (Lib.decDigits v.natAbs ++ t) else [] ++ (Lib.decDigits v.toNat ++ t) := by
    intro t; unfold Lib.itoa; split <;> simp
  unfold textOf at hl
  by_cases hz : r = 0
  · subst hz
    rw [if_pos rfl] at hl
    by_cases hn : (k : Int) = 0
    · obtain rfl : k = 0 := by omega
      rw [if_pos hn, ← List.append_nil (Lib.itoa v), hi] at hl
      by_cases hv : v < 0
      · obtain ⟨u, rfl⟩ : ∃ u : Nat, v = -(u : Int) := ⟨v.natAbs, by omega⟩
        rw [if_pos hv, show (-(u : Int)).natAbs = u by omega] at hl
        exact yes_neg0 u 0 0 0 s w hs (by omega) (by omega) hl htx
      · obtain ⟨u, rfl⟩ : ∃ u : Nat, v = (u : Int) := ⟨v.toNat, by omega⟩
        rw [if_neg hv, Int.toNat_natCast] at hl
        exact yes_pos0 u 0 0 0 s w hs (by omega) hl htx
    · rw [if_neg hn, hi, Int.toNat_natCast, ← List.append_nil (Lib.decDigits k)] at hl
      by_cases hv : v < 0
      · obtain ⟨u, rfl⟩ : ∃ u : Nat, v = -(u : Int) := ⟨v.natAbs, by omega⟩
        rw [if_pos hv, show (-(u : Int)).natAbs = u by omega] at hl
        exact yes_neg1 u k 0 0 s w hs (by omega) (by omega) (by omega) hl htx
      · obtain ⟨u, rfl⟩ : ∃ u : Nat, v = (u : Int) := ⟨v.toNat, by omega⟩
        rw [if_neg hv, Int.toNat_natCast] at hl
        exact yes_pos1 u k 0 0 s w hs (by omega) (by omega) hl htx
  · have hg : Good r := hr.resolve_left hz
    rw [if_neg hz, if_pos hg, hi, Int.toNat_natCast] at hl
    have hg' := hg
    unfold Good at hg'
    obtain ⟨x, hx⟩ : ∃ x : Nat, r / 16777216 = (x : Int) := ⟨(r / 16777216).toNat, by omega⟩
    obtain ⟨y, hy⟩ : ∃ y : Nat, r % 16777216 = (y : Int) := ⟨(r % 16777216).toNat, by omega⟩
    rw [hx, hy, Int.toNat_natCast, Int.toNat_natCast, ← List.append_nil (Lib.decDigits y)] at hl
    obtain rfl : r = (x : Int) * 16777216 + (y : Int) := by omega
    by_cases hv : v < 0
    · obtain ⟨u, rfl⟩ : ∃ u : Nat, v = -(u : Int) := ⟨v.natAbs, by omega⟩
      rw [if_pos hv, show (-(u : Int)).natAbs = u by omega] at hl
      exact yes_neg2 u k x y s w hs (by omega) (by omega) (by omega) (by omega) (by omega) hl htx
    · obtain ⟨u, rfl⟩ : ∃ u : Nat, v = (u : Int) := ⟨v.toNat, by omega⟩
      rw [if_neg hv, Int.toNat_natCast] at hl
      exact yes_pos2 u k x y s w hs (by omega) (by omega) (by omega) (by omega) hl htx
end Go.Proofs.YthcafhdokbejkaaDoor
