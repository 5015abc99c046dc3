/- Contracts of the functions of package word, and of the reference, over the translated program: what each call returns, and that it leaves older memory as it was. -/
import Derived.Test.YthcafhdokbejkaaDoorRows
import Derived.WalkKit
import Derived.WalkSpells
import Derived.WalkLawsBesides
import Derived.ProofKit
import Derived.OpenShut
import Derived.Laws.BitsAllLaws
import Derived.Lib.Hide
namespace Go.Proofs.YthcafhdokbejkaaDoor
open Go.ChangeShapes Go.WideShapes Go.ChangeAt Go.RowKit

theorem ret2 {k1 k2 : IntKind} {a b c d : Int} (h : a = c) (h' : b = d) : Ending.returned (.tuple #[.int k1 a, .int k2 b]) = .returned (.tuple #[.int k1 c, .int k2 d]) := by rw [h, h']

set_option maxHeartbeats 400000 in
theorem ref_ok (a b : Int) (w : World) (h1 : 1 ≤ a) (h2 : a ≤ 72) (h3 : 1 ≤ b) (h4 : b ≤ 16777215) :
    Calls Tryd.prog 9 #[.int .i64 a, .int .i64 b] w fun e w' => e = .returned (.tuple #[.int .u32 (a * 16777216 + b), .int .i64 0]) ∧ w = w' := by
  go_enter Tryd.func9, Tryd.ntmps9
  go_wp2
  go_ret2
  exact ⟨rfl, rfl⟩

set_option maxHeartbeats 400000 in
theorem ref_no (a b : Int) (w : World) (h : ¬ (1 ≤ a ∧ a ≤ 72 ∧ 1 ≤ b ∧ b ≤ 16777215)) :
    Calls Tryd.prog 9 #[.int .i64 a, .int .i64 b] w fun e w' => e = .returned (.tuple #[.int .u32 0, .int .i64 3]) ∧ w = w' := by
  by_cases h1 : a < 1
  · go_enter Tryd.func9, Tryd.ntmps9
    go_wp2
    go_ret2
    exact ⟨rfl, rfl⟩
  · by_cases h2 : 72 < a
    · go_enter Tryd.func9, Tryd.ntmps9
      go_wp2
      go_ret2
      exact ⟨rfl, rfl⟩
    · by_cases h3 : b < 1
      · go_enter Tryd.func9, Tryd.ntmps9
        go_wp2
        go_ret2
        exact ⟨rfl, rfl⟩
      · have h4 : 16777215 < b := by omega
        clear h
        go_enter Tryd.func9, Tryd.ntmps9
        go_wp2
        go_ret2
        exact ⟨rfl, rfl⟩

theorem rref_ok (a b : Int) (w : World) (h1 : 1 ≤ a) (h2 : a ≤ 72) (h3 : 1 ≤ b) (h4 : b ≤ 16777215) :
    Calls Tryd.prog 10 #[.int .i64 a, .int .i64 b] w fun e w' => e = .returned (.tuple #[.int .u32 (a * 16777216 + b), .int .i64 0]) ∧ w = w' := by
  go_enter Tryd.func10, Tryd.ntmps10
  go_wp2
  go_ret2
  exact ⟨rfl, rfl⟩

set_option maxHeartbeats 400000 in
theorem rref_no (a b : Int) (w : World) (h : ¬ (1 ≤ a ∧ a ≤ 72 ∧ 1 ≤ b ∧ b ≤ 16777215)) :
    Calls Tryd.prog 10 #[.int .i64 a, .int .i64 b] w fun e w' => e = .returned (.tuple #[.int .u32 0, .int .i64 3]) ∧ w = w' := by
  by_cases h1 : a < 1
  · go_enter Tryd.func10, Tryd.ntmps10
    go_wp2
    go_ret2
    exact ⟨rfl, rfl⟩
  · by_cases h2 : 72 < a
    · go_enter Tryd.func10, Tryd.ntmps10
      go_wp2
      go_ret2
      exact ⟨rfl, rfl⟩
    · by_cases h3 : b < 1
      · go_enter Tryd.func10, Tryd.ntmps10
        go_wp2
        go_ret2
        exact ⟨rfl, rfl⟩
      · have h4 : 16777215 < b := by omega
        clear h
        go_enter Tryd.func10, Tryd.ntmps10
        go_wp2
        go_ret2
        exact ⟨rfl, rfl⟩

/-- A reference is valid. -/
def Good (r : Int) : Prop := 1 ≤ r / 16777216 ∧ r / 16777216 ≤ 72 ∧ 1 ≤ r % 16777216

theorem mask (r : Int) (h0 : 0 ≤ r) (h1 : r < 4294967296) : bits .and .u32 r 16777215 = r % 16777216 := by
  rw [u32_and r 16777215 h0 h1 (by omega) (by omega)]
  have : (16777215 : Int).toNat = 2 ^ 24 - 1 := by decide
  rw [this, Nat.and_two_pow_sub_one_eq_mod]
  omega

set_option maxHeartbeats 400000 in
theorem who_ok (r : Int) (w : World) (h0 : 0 ≤ r) (h1 : r < 4294967296) (h : Good r) :
    Calls Tryd.prog 11 #[.int .u32 r] w fun e w' => e = .returned (.tuple #[.int .i64 (r / 16777216), .int .i64 (r % 16777216)]) ∧ w = w' := by
  obtain ⟨g1, g2, g3⟩ := h
  have hm := mask r h0 h1
  have g4 : r % 16777216 ≤ 16777215 := by omega
  go_enter Tryd.func11, Tryd.ntmps11
  go_wp2_with fail
  refine (ref_ok _ _ _ g1 g2 g3 g4).mono ?_
  rintro e w' ⟨rfl, rfl⟩
  go_wp2
  go_ret2
  exact ⟨rfl, rfl⟩

set_option maxHeartbeats 400000 in
theorem who_no (r : Int) (w : World) (h0 : 0 ≤ r) (h1 : r < 4294967296) (h : ¬ Good r) :
    Calls Tryd.prog 11 #[.int .u32 r] w fun e w' => e = .returned (.tuple #[.int .i64 0, .int .i64 0]) ∧ w = w' := by
  have g : ¬ (1 ≤ r / 16777216 ∧ r / 16777216 ≤ 72 ∧ 1 ≤ r % 16777216 ∧ r % 16777216 ≤ 16777215) := fun g => h ⟨g.1, g.2.1, g.2.2.1⟩
  have hm := mask r h0 h1
  have G := Lib.hid g
  clear g h
  go_enter Tryd.func11, Tryd.ntmps11
  go_wp2_with fail
  refine (ref_no _ _ _ G.out).mono ?_
  rintro e w' ⟨rfl, rfl⟩
  go_wp2
  go_ret2
  exact ⟨rfl, rfl⟩

set_option maxHeartbeats 400000 in
theorem rwho_ok (r : Int) (w : World) (h0 : 0 ≤ r) (h1 : r < 4294967296) (h : Good r) :
    Calls Tryd.prog 12 #[.int .u32 r] w fun e w' => e = .returned (.tuple #[.int .i64 (r / 16777216), .int .i64 (r % 16777216)]) ∧ w = w' := by
  obtain ⟨g1, g2, g3⟩ := h
  go_enter Tryd.func12, Tryd.ntmps12
  go_wp2
  go_ret2
  exact ⟨rfl, rfl⟩

set_option maxHeartbeats 400000 in
theorem rwho_no (r : Int) (w : World) (h0 : 0 ≤ r) (h1 : r < 4294967296) (h : ¬ Good r) :
    Calls Tryd.prog 12 #[.int .u32 r] w fun e w' => e = .returned (.tuple #[.int .i64 0, .int .i64 0]) ∧ w = w' := by
  unfold Good at h
  by_cases g1 : r / 16777216 < 1
  · clear h
    go_enter Tryd.func12, Tryd.ntmps12
    go_wp2
    go_ret2
    exact ⟨rfl, rfl⟩
  · by_cases g2 : 72 < r / 16777216
    · clear h
      go_enter Tryd.func12, Tryd.ntmps12
      go_wp2
      go_ret2
      exact ⟨rfl, rfl⟩
    · have g3 : r % 16777216 < 1 := by omega
      clear h
      go_enter Tryd.func12, Tryd.ntmps12
      go_wp2
      go_ret2
      exact ⟨rfl, rfl⟩

set_option maxHeartbeats 400000 in
theorem valid_ok (r : Int) (w : World) (h0 : 0 ≤ r) (h1 : r < 4294967296) (h : Good r) :
    Calls Tryd.prog 22 #[.int .u32 r] w fun e w' => e = .returned (.bool true) ∧ w = w' := by
  have hne : (r / 16777216 != 0) = true := by have := h.1; rw [bne_iff_ne]; omega
  go_enter Tryd.func22, Tryd.ntmps22
  go_wp2_with fail
  refine (who_ok _ _ h0 h1 h).mono ?_
  rintro e w' ⟨rfl, rfl⟩
  clear h
  go_wp2
  go_ret
  exact ⟨rfl, rfl⟩

set_option maxHeartbeats 400000 in
theorem valid_no (r : Int) (w : World) (h0 : 0 ≤ r) (h1 : r < 4294967296) (h : ¬ Good r) :
    Calls Tryd.prog 22 #[.int .u32 r] w fun e w' => e = .returned (.bool false) ∧ w = w' := by
  go_enter Tryd.func22, Tryd.ntmps22
  go_wp2_with fail
  refine (who_no _ _ h0 h1 h).mono ?_
  rintro e w' ⟨rfl, rfl⟩
  clear h
  go_wp2
  go_ret
  exact ⟨rfl, rfl⟩

set_option maxHeartbeats 400000 in
theorem kind_plain (v n : Int) (w : World) :
    Calls Tryd.prog 21 #[.agg #[.int .i64 v, .int .u32 n, .int .u32 0]] w fun e w' => e = .returned (.int .i64 0) ∧ w.alloc (.cells #[.int .i64 v, .int .u32 n, .int .u32 0] 33) = w' := by
  go_enter Tryd.func21, Tryd.ntmps21
  go_wp2
  go_ret
  exact ⟨rfl, rfl⟩

set_option maxHeartbeats 400000 in
theorem kind_inst (v n r : Int) (w : World) (h0 : 0 ≤ r) (h1 : r < 4294967296) (h : Good r) :
    Calls Tryd.prog 21 #[.agg #[.int .i64 v, .int .u32 n, .int .u32 r]] w fun e w' => e = .returned (.int .i64 1) ∧ w.alloc (.cells #[.int .i64 v, .int .u32 n, .int .u32 r] 33) = w' := by
  have hne : (r == 0) = false := by have := h.1; rw [beq_eq_false_iff_ne]; omega
  have H := Lib.hid h
  clear h
  go_enter Tryd.func21, Tryd.ntmps21
  go_wp2_with fail
  refine (valid_ok _ _ h0 h1 H.out).mono ?_
  rintro e w' ⟨rfl, rfl⟩
  go_wp2
  go_ret
  exact ⟨rfl, rfl⟩

set_option maxHeartbeats 400000 in
theorem kind_bad (v n r : Int) (w : World) (h0 : 0 ≤ r) (h1 : r < 4294967296) (hz : r ≠ 0) (h : ¬ Good r) :
    Calls Tryd.prog 21 #[.agg #[.int .i64 v, .int .u32 n, .int .u32 r]] w fun e w' => e = .returned (.int .i64 2) ∧ w.alloc (.cells #[.int .i64 v, .int .u32 n, .int .u32 r] 33) = w' := by
  have hne : (r == 0) = false := by rw [beq_eq_false_iff_ne]; exact hz
  have H := Lib.hid h
  clear h
  go_enter Tryd.func21, Tryd.ntmps21
  go_wp2_with fail
  refine (valid_no _ _ h0 h1 H.out).mono ?_
  rintro e w' ⟨rfl, rfl⟩
  go_wp2
  go_ret
  exact ⟨rfl, rfl⟩

theorem b2 (w : World) (a b : Obj) : Below w.heap.size w ((w.alloc a).alloc b) :=
  ((Below.refl _ _).alloc (Nat.le_refl _) _).alloc (by simp) _
theorem b3 (w : World) (a b c : Obj) : Below w.heap.size w (((w.alloc a).alloc b).alloc c) :=
  (b2 w a b).alloc (by simp; omega) _
theorem b4 (w : World) (a b c d : Obj) : Below w.heap.size w ((((w.alloc a).alloc b).alloc c).alloc d) :=
  (b3 w a b c).alloc (by simp; omega) _

set_option maxHeartbeats 400000 in
theorem install_ok (v n r : Int) (w : World) (h0 : 0 ≤ r) (h1 : r < 4294967296) (h : Good r) :
    Calls Tryd.prog 14 #[.agg #[.int .i64 v, .int .u32 n, .int .u32 0], .int .u32 r] w fun e w' => e = .returned (.tuple #[.agg #[.int .i64 v, .int .u32 n, .int .u32 r], .int .i64 0]) ∧ Below w.heap.size w w' := by
  have H := Lib.hid h
  clear h
  go_enter Tryd.func14, Tryd.ntmps14
  go_wp2_with fail
  refine (kind_plain _ _ _).mono ?_
  rintro e w' ⟨rfl, rfl⟩
  go_wp2_with fail
  refine (valid_ok _ _ h0 h1 H.out).mono ?_
  rintro e w' ⟨rfl, rfl⟩
  go_wp2
  exact bodyPost_ret (v := .tuple #[.agg #[.int .i64 v, .int .u32 n, .int .u32 r], .int .i64 0]) (by simp [results, Tryd.results14, go_sem]) rfl ⟨rfl, b3 _ _ _ _⟩

set_option maxHeartbeats 400000 in
theorem install_range (v n r : Int) (w : World) (h0 : 0 ≤ r) (h1 : r < 4294967296) (h : ¬ Good r) :
    Calls Tryd.prog 14 #[.agg #[.int .i64 v, .int .u32 n, .int .u32 0], .int .u32 r] w fun e w' => e = .returned (.tuple #[.agg #[.int .i64 v, .int .u32 n, .int .u32 0], .int .i64 3]) ∧ Below w.heap.size w w' := by
  have H := Lib.hid h
  clear h
  go_enter Tryd.func14, Tryd.ntmps14
  go_wp2_with fail
  refine (kind_plain _ _ _).mono ?_
  rintro e w' ⟨rfl, rfl⟩
  go_wp2_with fail
  refine (valid_no _ _ h0 h1 H.out).mono ?_
  rintro e w' ⟨rfl, rfl⟩
  go_wp2
  exact bodyPost_ret (v := .tuple #[.agg #[.int .i64 v, .int .u32 n, .int .u32 0], .int .i64 3]) (by simp [results, Tryd.results14, go_sem]) rfl ⟨rfl, b3 _ _ _ _⟩

set_option maxHeartbeats 400000 in
theorem install_held (v n q r : Int) (w : World) (h0 : 0 ≤ q) (h1 : q < 4294967296) (h : Good q) :
    Calls Tryd.prog 14 #[.agg #[.int .i64 v, .int .u32 n, .int .u32 q], .int .u32 r] w fun e w' => e = .returned (.tuple #[.agg #[.int .i64 v, .int .u32 n, .int .u32 q], .int .i64 13]) ∧ Below w.heap.size w w' := by
  have H := Lib.hid h
  clear h
  go_enter Tryd.func14, Tryd.ntmps14
  go_wp2_with fail
  refine (kind_inst _ _ _ _ h0 h1 H.out).mono ?_
  rintro e w' ⟨rfl, rfl⟩
  go_wp2
  exact bodyPost_ret (v := .tuple #[.agg #[.int .i64 v, .int .u32 n, .int .u32 q], .int .i64 13]) (by simp [results, Tryd.results14, go_sem]) rfl ⟨rfl, b3 _ _ _ _⟩

set_option maxHeartbeats 400000 in
theorem install_bad (v n q r : Int) (w : World) (h0 : 0 ≤ q) (h1 : q < 4294967296) (hz : q ≠ 0) (h : ¬ Good q) :
    Calls Tryd.prog 14 #[.agg #[.int .i64 v, .int .u32 n, .int .u32 q], .int .u32 r] w fun e w' => e = .returned (.tuple #[.agg #[.int .i64 v, .int .u32 n, .int .u32 q], .int .i64 13]) ∧ Below w.heap.size w w' := by
  have H := Lib.hid h
  clear h
  have Z := Lib.hid hz
  clear hz
  go_enter Tryd.func14, Tryd.ntmps14
  go_wp2_with fail
  refine (kind_bad _ _ _ _ h0 h1 Z.out H.out).mono ?_
  rintro e w' ⟨rfl, rfl⟩
  go_wp2
  exact bodyPost_ret (v := .tuple #[.agg #[.int .i64 v, .int .u32 n, .int .u32 q], .int .i64 13]) (by simp [results, Tryd.results14, go_sem]) rfl ⟨rfl, b3 _ _ _ _⟩

set_option maxHeartbeats 400000 in
theorem release_plain (v n x : Int) (b : Bool) (w : World) :
    Calls Tryd.prog 16 #[.agg #[.int .i64 v, .int .u32 n, .int .u32 0], .int .i64 x, .bool b] w fun e w' => e = .returned (.tuple #[.agg #[.int .i64 v, .int .u32 n, .int .u32 0], .int .i64 13]) ∧ Below w.heap.size w w' := by
  go_enter Tryd.func16, Tryd.ntmps16
  go_wp2_with fail
  refine (kind_plain _ _ _).mono ?_
  rintro e w' ⟨rfl, rfl⟩
  go_wp2
  exact bodyPost_ret (v := .tuple #[.agg #[.int .i64 v, .int .u32 n, .int .u32 0], .int .i64 13]) (by simp [results, Tryd.results16, go_sem]) rfl ⟨rfl, b3 _ _ _ _⟩

set_option maxHeartbeats 400000 in
theorem release_bad (v n q x : Int) (b : Bool) (w : World) (h0 : 0 ≤ q) (h1 : q < 4294967296) (hz : q ≠ 0) (h : ¬ Good q) :
    Calls Tryd.prog 16 #[.agg #[.int .i64 v, .int .u32 n, .int .u32 q], .int .i64 x, .bool b] w fun e w' => e = .returned (.tuple #[.agg #[.int .i64 v, .int .u32 n, .int .u32 q], .int .i64 13]) ∧ Below w.heap.size w w' := by
  have H := Lib.hid h
  clear h
  have Z := Lib.hid hz
  clear hz
  go_enter Tryd.func16, Tryd.ntmps16
  go_wp2_with fail
  refine (kind_bad _ _ _ _ h0 h1 Z.out H.out).mono ?_
  rintro e w' ⟨rfl, rfl⟩
  go_wp2
  exact bodyPost_ret (v := .tuple #[.agg #[.int .i64 v, .int .u32 n, .int .u32 q], .int .i64 13]) (by simp [results, Tryd.results16, go_sem]) rfl ⟨rfl, b3 _ _ _ _⟩

set_option maxHeartbeats 400000 in
theorem release_keep (v n q x : Int) (w : World) (h0 : 0 ≤ q) (h1 : q < 4294967296) (h : Good q) :
    Calls Tryd.prog 16 #[.agg #[.int .i64 v, .int .u32 n, .int .u32 q], .int .i64 x, .bool false] w fun e w' => e = .returned (.tuple #[.agg #[.int .i64 v, .int .u32 n, .int .u32 0], .int .i64 0]) ∧ Below w.heap.size w w' := by
  have H := Lib.hid h
  clear h
  go_enter Tryd.func16, Tryd.ntmps16
  go_wp2_with fail
  refine (kind_inst _ _ _ _ h0 h1 H.out).mono ?_
  rintro e w' ⟨rfl, rfl⟩
  go_wp2
  exact bodyPost_ret (v := .tuple #[.agg #[.int .i64 v, .int .u32 n, .int .u32 0], .int .i64 0]) (by simp [results, Tryd.results16, go_sem]) rfl ⟨rfl, b3 _ _ _ _⟩

set_option maxHeartbeats 400000 in
theorem release_full (v q x : Int) (w : World) (h0 : 0 ≤ q) (h1 : q < 4294967296) (h : Good q) :
    Calls Tryd.prog 16 #[.agg #[.int .i64 v, .int .u32 4294967295, .int .u32 q], .int .i64 x, .bool true] w fun e w' => e = .returned (.tuple #[.agg #[.int .i64 v, .int .u32 4294967295, .int .u32 q], .int .i64 9]) ∧ Below w.heap.size w w' := by
  have H := Lib.hid h
  clear h
  go_enter Tryd.func16, Tryd.ntmps16
  go_wp2_with fail
  refine (kind_inst _ _ _ _ h0 h1 H.out).mono ?_
  rintro e w' ⟨rfl, rfl⟩
  go_wp2
  exact bodyPost_ret (v := .tuple #[.agg #[.int .i64 v, .int .u32 4294967295, .int .u32 q], .int .i64 9]) (by simp [results, Tryd.results16, go_sem]) rfl ⟨rfl, b3 _ _ _ _⟩

set_option maxHeartbeats 400000 in
theorem release_ok (v n q x : Int) (w : World) (hn : 0 ≤ n) (hn2 : n < 4294967295) (h0 : 0 ≤ q) (h1 : q < 4294967296) (h : Good q) :
    Calls Tryd.prog 16 #[.agg #[.int .i64 v, .int .u32 n, .int .u32 q], .int .i64 x, .bool true] w fun e w' => e = .returned (.tuple #[.agg #[.int .i64 x, .int .u32 (n + 1), .int .u32 0], .int .i64 0]) ∧ Below w.heap.size w w' := by
  have H := Lib.hid h
  clear h
  have hne : (n == 4294967295) = false := by rw [beq_eq_false_iff_ne]; omega
  go_enter Tryd.func16, Tryd.ntmps16
  go_wp2_with fail
  refine (kind_inst _ _ _ _ h0 h1 H.out).mono ?_
  rintro e w' ⟨rfl, rfl⟩
  go_wp2
  exact bodyPost_ret (v := .tuple #[.agg #[.int .i64 x, .int .u32 (n + 1), .int .u32 0], .int .i64 0]) (by simp [results, Tryd.results16, go_sem]) rfl ⟨rfl, b3 _ _ _ _⟩

set_option maxHeartbeats 400000 in
theorem plain_yes (v n : Int) (w : World) :
    Calls Tryd.prog 15 #[.agg #[.int .i64 v, .int .u32 n, .int .u32 0]] w fun e w' => e = .returned (.bool true) ∧ Below w.heap.size w w' := by
  go_enter Tryd.func15, Tryd.ntmps15
  go_wp2_with fail
  refine (kind_plain _ _ _).mono ?_
  rintro e w' ⟨rfl, rfl⟩
  go_wp2
  go_ret
  exact ⟨rfl, b2 _ _ _⟩

set_option maxHeartbeats 400000 in
theorem plain_held (v n q : Int) (w : World) (h0 : 0 ≤ q) (h1 : q < 4294967296) (h : Good q) :
    Calls Tryd.prog 15 #[.agg #[.int .i64 v, .int .u32 n, .int .u32 q]] w fun e w' => e = .returned (.bool false) ∧ Below w.heap.size w w' := by
  have H := Lib.hid h
  clear h
  go_enter Tryd.func15, Tryd.ntmps15
  go_wp2_with fail
  refine (kind_inst _ _ _ _ h0 h1 H.out).mono ?_
  rintro e w' ⟨rfl, rfl⟩
  go_wp2
  go_ret
  exact ⟨rfl, b2 _ _ _⟩

set_option maxHeartbeats 400000 in
theorem plain_bad (v n q : Int) (w : World) (h0 : 0 ≤ q) (h1 : q < 4294967296) (hz : q ≠ 0) (h : ¬ Good q) :
    Calls Tryd.prog 15 #[.agg #[.int .i64 v, .int .u32 n, .int .u32 q]] w fun e w' => e = .returned (.bool false) ∧ Below w.heap.size w w' := by
  have H := Lib.hid h
  clear h
  have Z := Lib.hid hz
  clear hz
  go_enter Tryd.func15, Tryd.ntmps15
  go_wp2_with fail
  refine (kind_bad _ _ _ _ h0 h1 Z.out H.out).mono ?_
  rintro e w' ⟨rfl, rfl⟩
  go_wp2
  go_ret
  exact ⟨rfl, b2 _ _ _⟩

theorem good7 : Good 16777223 := by unfold Good; omega

set_option maxHeartbeats 400000 in
theorem text1 (w : World) :
    Calls Tryd.prog 19 #[.agg #[.int .i64 5, .int .u32 2, .int .u32 16777223]] w fun e w' => e = .returned (.string ⟨#[53, 46, 50, 35, 49, 58, 55]⟩) ∧ Below w.heap.size w w' := by
  go_enter Tryd.func19, Tryd.ntmps19
  go_wp2_with fail
  refine (kind_inst _ _ _ _ (by omega) (by omega) good7).mono ?_
  rintro e w' ⟨rfl, rfl⟩
  go_wp2_with (first | (go_at_call 11; refine (who_ok _ _ (by omega) (by omega) good7).mono ?_; rintro e w' ⟨rfl, rfl⟩) | go_in)
  go_ret
  exact ⟨rfl, b2 _ _ _⟩

set_option maxHeartbeats 400000 in
theorem text2 (w : World) :
    Calls Tryd.prog 19 #[.agg #[.int .i64 9, .int .u32 3, .int .u32 0]] w fun e w' => e = .returned (.string ⟨#[57, 46, 51]⟩) ∧ Below w.heap.size w w' := by
  go_enter Tryd.func19, Tryd.ntmps19
  go_wp2_with fail
  refine (kind_plain _ _ _).mono ?_
  rintro e w' ⟨rfl, rfl⟩
  go_wp2
  go_ret
  exact ⟨rfl, b2 _ _ _⟩

set_option maxHeartbeats 400000 in
theorem text3 (w : World) :
    Calls Tryd.prog 19 #[.agg #[.int .i64 5, .int .u32 2, .int .u32 0]] w fun e w' => e = .returned (.string ⟨#[53, 46, 50]⟩) ∧ Below w.heap.size w w' := by
  go_enter Tryd.func19, Tryd.ntmps19
  go_wp2_with fail
  refine (kind_plain _ _ _).mono ?_
  rintro e w' ⟨rfl, rfl⟩
  go_wp2
  go_ret
  exact ⟨rfl, b2 _ _ _⟩
end Go.Proofs.YthcafhdokbejkaaDoor
