/- The reference's Text: it answers the text form of every word. -/
import Derived.Test.YthcafhdokbejkaaDoorNumber
import Derived.Test.YthcafhdokbejkaaDoorAwake
namespace Go.Proofs.YthcafhdokbejkaaDoor
open Go.ChangeShapes Go.WideShapes Go.ChangeAt Go.RowKit
set_option linter.unusedVariables false

theorem num_list (n : Int) (l : List UInt8) (h0 : -9223372036854775808 ≤ n) (h1 : n ≤ 9223372036854775807) (hl : Lib.itoa n = l) (w : World) :
    Calls Tryd.prog 28 #[.int .i64 n] w fun e w' => e = .returned (.string ⟨l.toArray⟩) ∧ Below w.heap.size w w' := by
  rw [← hl]; exact number_any n h0 h1 w

set_option maxRecDepth 100000 in
set_option maxHeartbeats 800000 in
theorem rtext_plain0 (v n r : Int) (w : World) (v0 : -9223372036854775808 ≤ v) (v1 : v ≤ 9223372036854775807) (n0 : 0 ≤ n) (n1 : n < 4294967296) (r0 : 0 ≤ r) (r1 : r < 4294967296)  :
    Calls Tryd.prog 20 #[.agg #[.int .i64 v, .int .u32 0, .int .u32 0]] w fun e w' => e = .returned (.string ⟨(textOf v 0 0).toArray⟩) ∧ Below w.heap.size w w' := by
  have HT := Lib.hid (show textOf v 0 0 = Lib.itoa v by unfold textOf; rw [if_pos rfl, if_pos rfl])
  obtain ⟨A, hA⟩ : ∃ l, Lib.itoa v = l := ⟨_, rfl⟩
  have lA : A.length ≤ 21 := by rw [← hA]; exact itoa_le v (by omega) (by omega)
  rw [hA] at HT
  have HA := Lib.hid hA
  clear hA
  have X := Lib.hid (HasW.new w v 0 0)
  have B0 := Lib.hid ((Below.refl _ _).alloc (Nat.le_refl _) (a := w) (.cells #[.int .i64 v, .int .u32 0, .int .u32 0] 33))
  go_enter Tryd.func20, Tryd.ntmps20
  obtain ⟨⟨x0, x1, x2⟩, xl⟩ := X.out
  go_wp2_with fail
  generalize w.alloc (.cells #[.int .i64 v, .int .u32 0, .int .u32 0] 33) = W0 at *
  obtain ⟨b, hb0⟩ : ∃ b, w.heap.size = b := ⟨_, rfl⟩
  rw [hb0] at X ⊢
  clear x0 x1 x2 xl
  refine (rwho_no 0 _ (by omega) (by omega) (by unfold Good; omega)).mono ?_
  rintro e w' ⟨rfl, rfl⟩
  obtain ⟨⟨x0, x1, x2⟩, xl⟩ := X.out
  go_wp2_with fail
  clear x0 x1 x2 xl
  refine (num_list v A (by omega) (by omega) HA.out _).mono ?_
  rintro e W1 ⟨rfl, hb⟩
  replace X := Lib.hid (X.out.below hb)
  replace B0 := Lib.hid (B0.out.trans (hb.mono B0.out.size))
  clear hb
  obtain ⟨⟨x0, x1, x2⟩, xl⟩ := X.out
  go_wp2
  go_ret
  rw [HT.out]
  exact ⟨rfl, B0.out⟩

set_option maxRecDepth 100000 in
set_option maxHeartbeats 800000 in
theorem rtext_plain1 (v n r : Int) (w : World) (v0 : -9223372036854775808 ≤ v) (v1 : v ≤ 9223372036854775807) (n0 : 0 ≤ n) (n1 : n < 4294967296) (r0 : 0 ≤ r) (r1 : r < 4294967296) (hn : n ≠ 0) :
    Calls Tryd.prog 20 #[.agg #[.int .i64 v, .int .u32 n, .int .u32 0]] w fun e w' => e = .returned (.string ⟨(textOf v n 0).toArray⟩) ∧ Below w.heap.size w w' := by
  have hnn : (n != 0) = true := by simpa using hn
  have HT := Lib.hid (show textOf v n 0 = Lib.itoa v ++ 46 :: Lib.itoa n by unfold textOf; rw [if_pos rfl, if_neg hn]; unfold Lib.itoa; rw [if_neg (by omega : ¬ n < 0)])
  obtain ⟨A, hA⟩ : ∃ l, Lib.itoa v = l := ⟨_, rfl⟩
  have lA : A.length ≤ 21 := by rw [← hA]; exact itoa_le v (by omega) (by omega)
  obtain ⟨B, hB⟩ : ∃ l, Lib.itoa n = l := ⟨_, rfl⟩
  have lB : B.length ≤ 21 := by rw [← hB]; exact itoa_le n (by omega) (by omega)
  rw [hA, hB] at HT
  have HA := Lib.hid hA
  have HB := Lib.hid hB
  clear hA hB
  have q1 : ¬ 9223372036854775807 < A.length + 1 := by omega
  have q2 : ¬ 9223372036854775807 < A.length + 1 + B.length := by omega
  have X := Lib.hid (HasW.new w v n 0)
  have B0 := Lib.hid ((Below.refl _ _).alloc (Nat.le_refl _) (a := w) (.cells #[.int .i64 v, .int .u32 n, .int .u32 0] 33))
  go_enter Tryd.func20, Tryd.ntmps20
  obtain ⟨⟨x0, x1, x2⟩, xl⟩ := X.out
  go_wp2_with fail
  generalize w.alloc (.cells #[.int .i64 v, .int .u32 n, .int .u32 0] 33) = W0 at *
  obtain ⟨b, hb0⟩ : ∃ b, w.heap.size = b := ⟨_, rfl⟩
  rw [hb0] at X ⊢
  clear x0 x1 x2 xl
  refine (rwho_no 0 _ (by omega) (by omega) (by unfold Good; omega)).mono ?_
  rintro e w' ⟨rfl, rfl⟩
  obtain ⟨⟨x0, x1, x2⟩, xl⟩ := X.out
  go_wp2_with fail
  clear x0 x1 x2 xl
  refine (num_list v A (by omega) (by omega) HA.out _).mono ?_
  rintro e W1 ⟨rfl, hb⟩
  replace X := Lib.hid (X.out.below hb)
  replace B0 := Lib.hid (B0.out.trans (hb.mono B0.out.size))
  clear hb
  obtain ⟨⟨x0, x1, x2⟩, xl⟩ := X.out
  go_wp2_with fail
  clear x0 x1 x2 xl
  refine (num_list n B (by omega) (by omega) HB.out _).mono ?_
  rintro e W2 ⟨rfl, hb⟩
  replace X := Lib.hid (X.out.below hb)
  replace B0 := Lib.hid (B0.out.trans (hb.mono B0.out.size))
  clear hb
  obtain ⟨⟨x0, x1, x2⟩, xl⟩ := X.out
  go_wp2
  go_ret
  rw [HT.out]
  exact ⟨ret_str (by simp [ByteArray.mk_append_mk]), B0.out⟩

set_option maxRecDepth 100000 in
set_option maxHeartbeats 800000 in
theorem rtext_inst1 (v n r : Int) (w : World) (v0 : -9223372036854775808 ≤ v) (v1 : v ≤ 9223372036854775807) (n0 : 0 ≤ n) (n1 : n < 4294967296) (r0 : 0 ≤ r) (r1 : r < 4294967296) (hn : n ≠ 0) (hr : Good r) :
    Calls Tryd.prog 20 #[.agg #[.int .i64 v, .int .u32 n, .int .u32 r]] w fun e w' => e = .returned (.string ⟨(textOf v n r).toArray⟩) ∧ Below w.heap.size w w' := by
  have hnn : (n != 0) = true := by simpa using hn
  have hz : r ≠ 0 := by unfold Good at hr; omega
  have hzz : (r != 0) = true := by simpa using hz
  have hrw : (r / 16777216 == 0) = false := by rw [beq_eq_false_iff_ne]; unfold Good at hr; omega
  have HG := Lib.hid hr
  have HT := Lib.hid (show textOf v n r = Lib.itoa v ++ 46 :: (Lib.itoa n ++ 35 :: (Lib.itoa (r / 16777216) ++ 58 :: Lib.itoa (r % 16777216))) by unfold textOf; rw [if_neg hz, if_pos hr]; unfold Lib.itoa; rw [if_neg (by omega : ¬ n < 0), if_neg (by omega : ¬ r / 16777216 < 0), if_neg (by omega : ¬ r % 16777216 < 0)])
  obtain ⟨A, hA⟩ : ∃ l, Lib.itoa v = l := ⟨_, rfl⟩
  have lA : A.length ≤ 21 := by rw [← hA]; exact itoa_le v (by omega) (by omega)
  obtain ⟨B, hB⟩ : ∃ l, Lib.itoa n = l := ⟨_, rfl⟩
  have lB : B.length ≤ 21 := by rw [← hB]; exact itoa_le n (by omega) (by omega)
  obtain ⟨C, hC⟩ : ∃ l, Lib.itoa (r / 16777216) = l := ⟨_, rfl⟩
  have lC : C.length ≤ 21 := by rw [← hC]; exact itoa_le (r / 16777216) (by omega) (by omega)
  obtain ⟨D, hD⟩ : ∃ l, Lib.itoa (r % 16777216) = l := ⟨_, rfl⟩
  have lD : D.length ≤ 21 := by rw [← hD]; exact itoa_le (r % 16777216) (by omega) (by omega)
  rw [hA, hB, hC, hD] at HT
  have HA := Lib.hid hA
  have HB := Lib.hid hB
  have HC := Lib.hid hC
  have HD := Lib.hid hD
  clear hA hB hC hD
  have q1 : ¬ 9223372036854775807 < A.length + 1 := by omega
  have q2 : ¬ 9223372036854775807 < A.length + 1 + B.length := by omega
  have q3 : ¬ 9223372036854775807 < A.length + 1 + B.length + 1 := by omega
  have q4 : ¬ 9223372036854775807 < A.length + 1 + B.length + 1 + C.length := by omega
  have q5 : ¬ 9223372036854775807 < A.length + 1 + B.length + 1 + C.length + 1 := by omega
  have q6 : ¬ 9223372036854775807 < A.length + 1 + B.length + 1 + C.length + 1 + D.length := by omega
  have X := Lib.hid (HasW.new w v n r)
  have B0 := Lib.hid ((Below.refl _ _).alloc (Nat.le_refl _) (a := w) (.cells #[.int .i64 v, .int .u32 n, .int .u32 r] 33))
  go_enter Tryd.func20, Tryd.ntmps20
  obtain ⟨⟨x0, x1, x2⟩, xl⟩ := X.out
  go_wp2_with fail
  generalize w.alloc (.cells #[.int .i64 v, .int .u32 n, .int .u32 r] 33) = W0 at *
  obtain ⟨b, hb0⟩ : ∃ b, w.heap.size = b := ⟨_, rfl⟩
  rw [hb0] at X ⊢
  clear x0 x1 x2 xl
  refine (rwho_ok r _ r0 r1 HG.out).mono ?_
  rintro e w' ⟨rfl, rfl⟩
  obtain ⟨⟨x0, x1, x2⟩, xl⟩ := X.out
  go_wp2_with fail
  clear x0 x1 x2 xl
  refine (num_list v A (by omega) (by omega) HA.out _).mono ?_
  rintro e W1 ⟨rfl, hb⟩
  replace X := Lib.hid (X.out.below hb)
  replace B0 := Lib.hid (B0.out.trans (hb.mono B0.out.size))
  clear hb
  obtain ⟨⟨x0, x1, x2⟩, xl⟩ := X.out
  go_wp2_with fail
  clear x0 x1 x2 xl
  refine (num_list n B (by omega) (by omega) HB.out _).mono ?_
  rintro e W2 ⟨rfl, hb⟩
  replace X := Lib.hid (X.out.below hb)
  replace B0 := Lib.hid (B0.out.trans (hb.mono B0.out.size))
  clear hb
  obtain ⟨⟨x0, x1, x2⟩, xl⟩ := X.out
  go_wp2_with fail
  clear x0 x1 x2 xl
  refine (num_list (r / 16777216) C (by omega) (by omega) HC.out _).mono ?_
  rintro e W3 ⟨rfl, hb⟩
  replace X := Lib.hid (X.out.below hb)
  replace B0 := Lib.hid (B0.out.trans (hb.mono B0.out.size))
  clear hb
  obtain ⟨⟨x0, x1, x2⟩, xl⟩ := X.out
  go_wp2_with fail
  clear x0 x1 x2 xl
  refine (num_list (r % 16777216) D (by omega) (by omega) HD.out _).mono ?_
  rintro e W4 ⟨rfl, hb⟩
  replace X := Lib.hid (X.out.below hb)
  replace B0 := Lib.hid (B0.out.trans (hb.mono B0.out.size))
  clear hb
  obtain ⟨⟨x0, x1, x2⟩, xl⟩ := X.out
  go_wp2
  go_ret
  rw [HT.out]
  exact ⟨ret_str (by simp [ByteArray.mk_append_mk]), B0.out⟩

set_option maxRecDepth 100000 in
set_option maxHeartbeats 800000 in
theorem rtext_inst0 (v n r : Int) (w : World) (v0 : -9223372036854775808 ≤ v) (v1 : v ≤ 9223372036854775807) (n0 : 0 ≤ n) (n1 : n < 4294967296) (r0 : 0 ≤ r) (r1 : r < 4294967296) (hr : Good r) :
    Calls Tryd.prog 20 #[.agg #[.int .i64 v, .int .u32 0, .int .u32 r]] w fun e w' => e = .returned (.string ⟨(textOf v 0 r).toArray⟩) ∧ Below w.heap.size w w' := by
  have hz : r ≠ 0 := by unfold Good at hr; omega
  have hzz : (r != 0) = true := by simpa using hz
  have hrw : (r / 16777216 == 0) = false := by rw [beq_eq_false_iff_ne]; unfold Good at hr; omega
  have HG := Lib.hid hr
  have HT := Lib.hid (show textOf v (0 : Int) r = Lib.itoa v ++ 46 :: (Lib.itoa (0 : Int) ++ 35 :: (Lib.itoa (r / 16777216) ++ 58 :: Lib.itoa (r % 16777216))) by unfold textOf; rw [if_neg hz, if_pos hr]; unfold Lib.itoa; rw [if_neg (by omega : ¬ (0 : Int) < 0), if_neg (by omega : ¬ r / 16777216 < 0), if_neg (by omega : ¬ r % 16777216 < 0)])
  obtain ⟨A, hA⟩ : ∃ l, Lib.itoa v = l := ⟨_, rfl⟩
  have lA : A.length ≤ 21 := by rw [← hA]; exact itoa_le v (by omega) (by omega)
  obtain ⟨B, hB⟩ : ∃ l, Lib.itoa 0 = l := ⟨_, rfl⟩
  have lB : B.length ≤ 21 := by rw [← hB]; exact itoa_le 0 (by omega) (by omega)
  obtain ⟨C, hC⟩ : ∃ l, Lib.itoa (r / 16777216) = l := ⟨_, rfl⟩
  have lC : C.length ≤ 21 := by rw [← hC]; exact itoa_le (r / 16777216) (by omega) (by omega)
  obtain ⟨D, hD⟩ : ∃ l, Lib.itoa (r % 16777216) = l := ⟨_, rfl⟩
  have lD : D.length ≤ 21 := by rw [← hD]; exact itoa_le (r % 16777216) (by omega) (by omega)
  rw [hA, hB, hC, hD] at HT
  have HA := Lib.hid hA
  have HB := Lib.hid hB
  have HC := Lib.hid hC
  have HD := Lib.hid hD
  clear hA hB hC hD
  have q1 : ¬ 9223372036854775807 < A.length + 1 := by omega
  have q2 : ¬ 9223372036854775807 < A.length + 1 + B.length := by omega
  have q3 : ¬ 9223372036854775807 < A.length + 1 + B.length + 1 := by omega
  have q4 : ¬ 9223372036854775807 < A.length + 1 + B.length + 1 + C.length := by omega
  have q5 : ¬ 9223372036854775807 < A.length + 1 + B.length + 1 + C.length + 1 := by omega
  have q6 : ¬ 9223372036854775807 < A.length + 1 + B.length + 1 + C.length + 1 + D.length := by omega
  have X := Lib.hid (HasW.new w v 0 r)
  have B0 := Lib.hid ((Below.refl _ _).alloc (Nat.le_refl _) (a := w) (.cells #[.int .i64 v, .int .u32 0, .int .u32 r] 33))
  go_enter Tryd.func20, Tryd.ntmps20
  obtain ⟨⟨x0, x1, x2⟩, xl⟩ := X.out
  go_wp2_with fail
  generalize w.alloc (.cells #[.int .i64 v, .int .u32 0, .int .u32 r] 33) = W0 at *
  obtain ⟨b, hb0⟩ : ∃ b, w.heap.size = b := ⟨_, rfl⟩
  rw [hb0] at X ⊢
  clear x0 x1 x2 xl
  refine (rwho_ok r _ r0 r1 HG.out).mono ?_
  rintro e w' ⟨rfl, rfl⟩
  obtain ⟨⟨x0, x1, x2⟩, xl⟩ := X.out
  go_wp2_with fail
  clear x0 x1 x2 xl
  refine (num_list v A (by omega) (by omega) HA.out _).mono ?_
  rintro e W1 ⟨rfl, hb⟩
  replace X := Lib.hid (X.out.below hb)
  replace B0 := Lib.hid (B0.out.trans (hb.mono B0.out.size))
  clear hb
  obtain ⟨⟨x0, x1, x2⟩, xl⟩ := X.out
  go_wp2_with fail
  clear x0 x1 x2 xl
  refine (num_list 0 B (by omega) (by omega) HB.out _).mono ?_
  rintro e W2 ⟨rfl, hb⟩
  replace X := Lib.hid (X.out.below hb)
  replace B0 := Lib.hid (B0.out.trans (hb.mono B0.out.size))
  clear hb
  obtain ⟨⟨x0, x1, x2⟩, xl⟩ := X.out
  go_wp2_with fail
  clear x0 x1 x2 xl
  refine (num_list (r / 16777216) C (by omega) (by omega) HC.out _).mono ?_
  rintro e W3 ⟨rfl, hb⟩
  replace X := Lib.hid (X.out.below hb)
  replace B0 := Lib.hid (B0.out.trans (hb.mono B0.out.size))
  clear hb
  obtain ⟨⟨x0, x1, x2⟩, xl⟩ := X.out
  go_wp2_with fail
  clear x0 x1 x2 xl
  refine (num_list (r % 16777216) D (by omega) (by omega) HD.out _).mono ?_
  rintro e W4 ⟨rfl, hb⟩
  replace X := Lib.hid (X.out.below hb)
  replace B0 := Lib.hid (B0.out.trans (hb.mono B0.out.size))
  clear hb
  obtain ⟨⟨x0, x1, x2⟩, xl⟩ := X.out
  go_wp2
  go_ret
  rw [HT.out]
  exact ⟨ret_str (by simp [ByteArray.mk_append_mk]), B0.out⟩

set_option maxRecDepth 100000 in
set_option maxHeartbeats 800000 in
theorem rtext_bad (v n r : Int) (w : World) (v0 : -9223372036854775808 ≤ v) (v1 : v ≤ 9223372036854775807) (n0 : 0 ≤ n) (n1 : n < 4294967296) (r0 : 0 ≤ r) (r1 : r < 4294967296) (hz : r ≠ 0) (hr : ¬ Good r) :
    Calls Tryd.prog 20 #[.agg #[.int .i64 v, .int .u32 n, .int .u32 r]] w fun e w' => e = .returned (.string ⟨(textOf v n r).toArray⟩) ∧ Below w.heap.size w w' := by
  have HT := Lib.hid (show textOf v n r = [] by unfold textOf; rw [if_neg hz, if_neg hr])
  have hzz : (r != 0) = true := by simpa using hz
  have HG := Lib.hid hr
  clear hr hz
  have X := Lib.hid (HasW.new w v n r)
  have B0 := Lib.hid ((Below.refl _ _).alloc (Nat.le_refl _) (a := w) (.cells #[.int .i64 v, .int .u32 n, .int .u32 r] 33))
  go_enter Tryd.func20, Tryd.ntmps20
  obtain ⟨⟨x0, x1, x2⟩, xl⟩ := X.out
  go_wp2_with fail
  generalize w.alloc (.cells #[.int .i64 v, .int .u32 n, .int .u32 r] 33) = W0 at *
  obtain ⟨b, hb0⟩ : ∃ b, w.heap.size = b := ⟨_, rfl⟩
  rw [hb0] at X ⊢
  clear x0 x1 x2 xl
  refine (rwho_no r _ r0 r1 HG.out).mono ?_
  rintro e w' ⟨rfl, rfl⟩
  obtain ⟨⟨x0, x1, x2⟩, xl⟩ := X.out
  go_wp2
  go_ret
  rw [HT.out]
  exact ⟨rfl, B0.out⟩

theorem rtext_any (v n r : Int) (w : World) (v0 : -9223372036854775808 ≤ v) (v1 : v ≤ 9223372036854775807) (n0 : 0 ≤ n) (n1 : n < 4294967296) (r0 : 0 ≤ r) (r1 : r < 4294967296) :
    Calls Tryd.prog 20 #[.agg #[.int .i64 v, .int .u32 n, .int .u32 r]] w fun e w' => e = .returned (.string ⟨(textOf v n r).toArray⟩) ∧ Below w.heap.size w w' := by
  by_cases hz : r = 0
  · subst hz
    by_cases hn : n = 0
    · subst hn; exact rtext_plain0 v 0 0 w v0 v1 (by omega) (by omega) (by omega) (by omega)
    · exact rtext_plain1 v n 0 w v0 v1 n0 n1 (by omega) (by omega) hn
  · by_cases hg : Good r
    · by_cases hn : n = 0
      · subst hn; exact rtext_inst0 v 0 r w v0 v1 (by omega) (by omega) r0 r1 hg
      · exact rtext_inst1 v n r w v0 v1 n0 n1 r0 r1 hn hg
    · exact rtext_bad v n r w v0 v1 n0 n1 r0 r1 hz hg
end Go.Proofs.YthcafhdokbejkaaDoor
