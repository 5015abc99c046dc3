/- Statement WordParses: the walk through the law for every input. -/
import Derived.Test.YthcafhdokbejkaaDoorInv
import Derived.Test.YthcafhdokbejkaaDoorEq
import Derived.Test.YthcafhdokbejkaaDoorOpen
import Derived.Deep.RegionHeld3
namespace Go.Proofs.YthcafhdokbejkaaDoor.wordParses
open Go.ChangeShapes Go.WideShapes Go.ChangeAt Go.RowKit
/-- The word's box, the table and the library's errors are there. -/
structure In (w : World) (b : Nat) (v n r : Int) (W : World) : Prop where
  x : HasW W b v n r
  t : Tab W
  s : Sen W
  g : Below b w W
theorem In.below {w W W' : World} {b : Nat} {v n r : Int} (h : In w b v n r W) (hb : Below W.heap.size W W') : In w b v n r W' :=
  ⟨h.x.below hb, h.t.below hb, h.s.below hb, h.g.trans (hb.mono (Nat.le_of_lt h.x.2))⟩
theorem In.new {w : World} (v n r : Int) (ht : Tab w) (hs : Sen w) : In w w.heap.size v n r (w.alloc (.cells #[.int .i64 v, .int .u32 n, .int .u32 r] 33)) :=
  have b := (Below.refl _ _).alloc (Nat.le_refl _) (a := w) (.cells #[.int .i64 v, .int .u32 n, .int .u32 r] 33)
  ⟨HasW.new w v n r, ht.below b, hs.below b, b⟩
theorem In.big {w W : World} {b : Nat} {v n r : Int} (h : In w b v n r W) : 3 ≤ W.heap.size := h.s.1
theorem In.alloc {w W : World} {b : Nat} {v n r : Int} (h : In w b v n r W) (o : Obj) : In w b v n r (W.alloc o) := h.below ((Below.refl _ _).alloc (Nat.le_refl _) o)
theorem str_list (s : ByteArray) : s = ⟨s.data.toList.toArray⟩ := by apply ByteArray.ext; simp
theorem who_zero (w : World) : Calls Tryd.prog 11 #[.int .u32 0] w fun e w' => e = .returned (.tuple #[.int .i64 0, .int .i64 0]) ∧ w = w' := who_no 0 w (by omega) (by omega) (by unfold Good; omega)
set_option maxRecDepth 100000 in
set_option maxHeartbeats 1600000 in
theorem w_good (v n r : Int) (s : ByteArray) (w : World) (hs : s.size ≤ 300) (v0 : -9223372036854775808 ≤ v) (v1 : v ≤ 9223372036854775807) (n0 : 0 ≤ n) (n1 : n < 4294967296) (r0 : 0 ≤ r) (r1 : r < 4294967296) (hr : Good r) (ht : Tab w) (hw : Sen w) :
    Calls Tryd.prog 7 #[.agg #[.int .i64 v, .int .u32 n, .int .u32 r], .string s] w fun e w' => e = .returned (.bool true) ∧ Below w.heap.size w w' := by
  have I := Lib.hid (In.new v n r ht hw)
  have HL := Lib.hid (text_len v0 v1 n0 n1 r0 r1)
  have HR := Lib.hid hr
  have hrz : (r != 0) = true := by simp; unfold Good at hr; omega
  have hrw : (r / 16777216 == 0) = false := by rw [beq_eq_false_iff_ne]; unfold Good at hr; omega
  clear hr
  clear ht hw
  obtain ⟨l, hl⟩ : ∃ l, s.data.toList = l := ⟨_, rfl⟩
  obtain rfl : s = ⟨l.toArray⟩ := by rw [← hl]
  have hl3 : l.length ≤ 300 := by simpa [ByteArray.size] using hs
  have gW := guardW
  have qN := neqW
  have qE := eqlW
  clear hl
  go_enter Tryd.func7, Tryd.ntmps7
  go_wp2_with fail
  generalize w.alloc (.cells #[.int .i64 v, .int .u32 n, .int .u32 r] 33) = W0 at *
  obtain ⟨b, hb0⟩ : ∃ b, w.heap.size = b := ⟨_, rfl⟩
  rw [hb0] at I ⊢
  refine (text_any v n r _ v0 v1 n0 n1 r0 r1 I.out.t).mono ?_
  rintro e W1 ⟨rfl, hb⟩
  replace I := Lib.hid (I.out.below hb)
  clear hb
  go_wp2_with fail
  refine (parse_any (textOf v n r) _ HL.out I.out.big I.out.s I.out.t).mono ?_
  rintro e W2 ⟨hp, hb⟩
  obtain rfl := parsed_text v0 v1 n0 n1 (.inr HR.out) hp
  replace I := Lib.hid (I.out.below hb)
  clear hb hp
  obtain ⟨⟨x0, x1, x2⟩, xl⟩ := I.out.x
  go_wp2_with fail
  refine (who_ok r _ r0 r1 HR.out).mono ?_
  rintro e w' ⟨rfl, rfl⟩
  clear x0 x1 x2 xl
  replace I := Lib.hid (I.out.alloc (.cells #[.int .i64 v, .int .u32 n, .int .u32 r] 33))
  have X := Lib.hid (HasW.new W2 v n r)
  generalize W2.alloc (.cells #[.int .i64 v, .int .u32 n, .int .u32 r] 33) = W3 at *
  generalize W2.heap.size = bx at *
  obtain ⟨⟨x0, x1, x2⟩, xl⟩ := I.out.x
  obtain ⟨⟨y0, y1, y2⟩, yl⟩ := X.out
  go_wp2_with fail
  clear x0 x1 x2 xl y0 y1 y2 yl X
  refine (parse_any l _ (by omega) I.out.big I.out.s I.out.t).mono ?_
  rintro e W4 ⟨hp, hb⟩
  replace I := Lib.hid (I.out.below hb)
  clear hb
  rcases hp with ⟨v', n', r', rfl, hv', hn', hr', -, hx⟩ | ⟨rfl, -⟩
  · have HX := Lib.hid hx
    clear hx
    have X := Lib.hid (HasW.new W4 v' n' r')
    obtain ⟨⟨y0, y1, y2⟩, yl⟩ := X.out
    go_wp2_with fail
    clear y0 y1 y2 yl X
    replace I := Lib.hid (I.out.alloc (.cells #[.int .i64 v', .int .u32 n', .int .u32 r'] 33))
    generalize W4.alloc (.cells #[.int .i64 v', .int .u32 n', .int .u32 r'] 33) = W5 at *
    refine (text_any v' n' r' _ hv'.1 hv'.2 hn'.1 hn'.2 hr'.1 hr'.2 I.out.t).mono ?_
    rintro e W6 ⟨rfl, hb⟩
    replace I := Lib.hid (I.out.below hb)
    clear hb
    rw [HX.out]
    go_wp2_with fail
    refine (awake_any _).mono ?_
    rintro e W7 ⟨rfl, hb⟩
    replace I := Lib.hid (I.out.below hb)
    clear hb
    go_wp2
    go_ret
    exact ⟨rfl, hb0 ▸ I.out.g⟩
  · have X := Lib.hid (HasW.new W4 0 0 0)
    obtain ⟨⟨y0, y1, y2⟩, yl⟩ := X.out
    go_wp2_with fail
    clear y0 y1 y2 yl X
    replace I := Lib.hid (I.out.alloc (.cells #[.int .i64 0, .int .u32 0, .int .u32 0] 33))
    refine (awake_any _).mono ?_
    rintro e W7 ⟨rfl, hb⟩
    replace I := Lib.hid (I.out.below hb)
    clear hb
    go_wp2
    go_ret
    exact ⟨rfl, hb0 ▸ I.out.g⟩
set_option maxRecDepth 100000 in
set_option maxHeartbeats 1600000 in
theorem w_plain (v n : Int) (s : ByteArray) (w : World) (hs : s.size ≤ 300) (v0 : -9223372036854775808 ≤ v) (v1 : v ≤ 9223372036854775807) (n0 : 0 ≤ n) (n1 : n < 4294967296)  (ht : Tab w) (hw : Sen w) :
    Calls Tryd.prog 7 #[.agg #[.int .i64 v, .int .u32 n, .int .u32 0], .string s] w fun e w' => e = .returned (.bool true) ∧ Below w.heap.size w w' := by
  have I := Lib.hid (In.new v n 0 ht hw)
  have HL := Lib.hid (text_len (r := 0) v0 v1 n0 n1 (by omega) (by omega))
  clear ht hw
  obtain ⟨l, hl⟩ : ∃ l, s.data.toList = l := ⟨_, rfl⟩
  obtain rfl : s = ⟨l.toArray⟩ := by rw [← hl]
  have hl3 : l.length ≤ 300 := by simpa [ByteArray.size] using hs
  have gW := guardW
  have qN := neqW
  have qE := eqlW
  clear hl
  go_enter Tryd.func7, Tryd.ntmps7
  go_wp2_with fail
  generalize w.alloc (.cells #[.int .i64 v, .int .u32 n, .int .u32 0] 33) = W0 at *
  obtain ⟨b, hb0⟩ : ∃ b, w.heap.size = b := ⟨_, rfl⟩
  rw [hb0] at I ⊢
  refine (text_any v n 0 _ v0 v1 n0 n1 (by omega) (by omega) I.out.t).mono ?_
  rintro e W1 ⟨rfl, hb⟩
  replace I := Lib.hid (I.out.below hb)
  clear hb
  go_wp2_with fail
  refine (parse_any (textOf v n 0) _ HL.out I.out.big I.out.s I.out.t).mono ?_
  rintro e W2 ⟨hp, hb⟩
  obtain rfl := parsed_text v0 v1 n0 n1 (.inl rfl) hp
  replace I := Lib.hid (I.out.below hb)
  clear hb hp
  obtain ⟨⟨x0, x1, x2⟩, xl⟩ := I.out.x
  go_wp2_with fail
  refine (who_zero _).mono ?_
  rintro e w' ⟨rfl, rfl⟩
  clear x0 x1 x2 xl
  replace I := Lib.hid (I.out.alloc (.cells #[.int .i64 v, .int .u32 n, .int .u32 0] 33))
  have X := Lib.hid (HasW.new W2 v n 0)
  generalize W2.alloc (.cells #[.int .i64 v, .int .u32 n, .int .u32 0] 33) = W3 at *
  generalize W2.heap.size = bx at *
  obtain ⟨⟨x0, x1, x2⟩, xl⟩ := I.out.x
  obtain ⟨⟨y0, y1, y2⟩, yl⟩ := X.out
  go_wp2_with fail
  clear x0 x1 x2 xl y0 y1 y2 yl X
  refine (parse_any l _ (by omega) I.out.big I.out.s I.out.t).mono ?_
  rintro e W4 ⟨hp, hb⟩
  replace I := Lib.hid (I.out.below hb)
  clear hb
  rcases hp with ⟨v', n', r', rfl, hv', hn', hr', -, hx⟩ | ⟨rfl, -⟩
  · have HX := Lib.hid hx
    clear hx
    have X := Lib.hid (HasW.new W4 v' n' r')
    obtain ⟨⟨y0, y1, y2⟩, yl⟩ := X.out
    go_wp2_with fail
    clear y0 y1 y2 yl X
    replace I := Lib.hid (I.out.alloc (.cells #[.int .i64 v', .int .u32 n', .int .u32 r'] 33))
    generalize W4.alloc (.cells #[.int .i64 v', .int .u32 n', .int .u32 r'] 33) = W5 at *
    refine (text_any v' n' r' _ hv'.1 hv'.2 hn'.1 hn'.2 hr'.1 hr'.2 I.out.t).mono ?_
    rintro e W6 ⟨rfl, hb⟩
    replace I := Lib.hid (I.out.below hb)
    clear hb
    rw [HX.out]
    go_wp2_with fail
    refine (awake_any _).mono ?_
    rintro e W7 ⟨rfl, hb⟩
    replace I := Lib.hid (I.out.below hb)
    clear hb
    go_wp2
    go_ret
    exact ⟨rfl, hb0 ▸ I.out.g⟩
  · have X := Lib.hid (HasW.new W4 0 0 0)
    obtain ⟨⟨y0, y1, y2⟩, yl⟩ := X.out
    go_wp2_with fail
    clear y0 y1 y2 yl X
    replace I := Lib.hid (I.out.alloc (.cells #[.int .i64 0, .int .u32 0, .int .u32 0] 33))
    refine (awake_any _).mono ?_
    rintro e W7 ⟨rfl, hb⟩
    replace I := Lib.hid (I.out.below hb)
    clear hb
    go_wp2
    go_ret
    exact ⟨rfl, hb0 ▸ I.out.g⟩
set_option maxRecDepth 100000 in
set_option maxHeartbeats 1600000 in
theorem w_bad (v n r : Int) (s : ByteArray) (w : World) (hs : s.size ≤ 300) (v0 : -9223372036854775808 ≤ v) (v1 : v ≤ 9223372036854775807) (n0 : 0 ≤ n) (n1 : n < 4294967296) (r0 : 0 ≤ r) (r1 : r < 4294967296) (hz : r ≠ 0) (hr : ¬ Good r) (ht : Tab w) (hw : Sen w) :
    Calls Tryd.prog 7 #[.agg #[.int .i64 v, .int .u32 n, .int .u32 r], .string s] w fun e w' => e = .returned (.bool true) ∧ Below w.heap.size w w' := by
  have I := Lib.hid (In.new v n r ht hw)
  have HL := Lib.hid (text_len v0 v1 n0 n1 r0 r1)
  have HR := Lib.hid hr
  have HT := Lib.hid (text_bad' (v := v) (n := n) hz hr)
  have hrz : (r != 0) = true := by simpa using hz
  clear hr hz
  clear ht hw
  obtain ⟨l, hl⟩ : ∃ l, s.data.toList = l := ⟨_, rfl⟩
  obtain rfl : s = ⟨l.toArray⟩ := by rw [← hl]
  have hl3 : l.length ≤ 300 := by simpa [ByteArray.size] using hs
  have gW := guardW
  have qN := neqW
  have qE := eqlW
  clear hl
  go_enter Tryd.func7, Tryd.ntmps7
  go_wp2_with fail
  generalize w.alloc (.cells #[.int .i64 v, .int .u32 n, .int .u32 r] 33) = W0 at *
  obtain ⟨b, hb0⟩ : ∃ b, w.heap.size = b := ⟨_, rfl⟩
  rw [hb0] at I ⊢
  refine (text_any v n r _ v0 v1 n0 n1 r0 r1 I.out.t).mono ?_
  rintro e W1 ⟨rfl, hb⟩
  replace I := Lib.hid (I.out.below hb)
  clear hb
  rw [HT.out]
  go_wp2_with fail
  refine (parse_any [] _ (by simp) I.out.big I.out.s I.out.t).mono ?_
  rintro e W2 ⟨hp, hb⟩
  obtain rfl := parsed_nil hp
  replace I := Lib.hid (I.out.below hb)
  clear hb hp
  obtain ⟨⟨x0, x1, x2⟩, xl⟩ := I.out.x
  go_wp2_with fail
  refine (who_no r _ r0 r1 HR.out).mono ?_
  rintro e w' ⟨rfl, rfl⟩
  clear x0 x1 x2 xl
  replace I := Lib.hid (I.out.alloc (.cells #[.int .i64 0, .int .u32 0, .int .u32 0] 33))
  have X := Lib.hid (HasW.new W2 0 0 0)
  generalize W2.alloc (.cells #[.int .i64 0, .int .u32 0, .int .u32 0] 33) = W3 at *
  generalize W2.heap.size = bx at *
  obtain ⟨⟨x0, x1, x2⟩, xl⟩ := I.out.x
  obtain ⟨⟨y0, y1, y2⟩, yl⟩ := X.out
  go_wp2_with fail
  clear x0 x1 x2 xl y0 y1 y2 yl X
  refine (parse_any l _ (by omega) I.out.big I.out.s I.out.t).mono ?_
  rintro e W4 ⟨hp, hb⟩
  replace I := Lib.hid (I.out.below hb)
  clear hb
  rcases hp with ⟨v', n', r', rfl, hv', hn', hr', -, hx⟩ | ⟨rfl, -⟩
  · have HX := Lib.hid hx
    clear hx
    have X := Lib.hid (HasW.new W4 v' n' r')
    obtain ⟨⟨y0, y1, y2⟩, yl⟩ := X.out
    go_wp2_with fail
    clear y0 y1 y2 yl X
    replace I := Lib.hid (I.out.alloc (.cells #[.int .i64 v', .int .u32 n', .int .u32 r'] 33))
    generalize W4.alloc (.cells #[.int .i64 v', .int .u32 n', .int .u32 r'] 33) = W5 at *
    refine (text_any v' n' r' _ hv'.1 hv'.2 hn'.1 hn'.2 hr'.1 hr'.2 I.out.t).mono ?_
    rintro e W6 ⟨rfl, hb⟩
    replace I := Lib.hid (I.out.below hb)
    clear hb
    rw [HX.out]
    go_wp2_with fail
    refine (awake_any _).mono ?_
    rintro e W7 ⟨rfl, hb⟩
    replace I := Lib.hid (I.out.below hb)
    clear hb
    go_wp2
    go_ret
    exact ⟨rfl, hb0 ▸ I.out.g⟩
  · have X := Lib.hid (HasW.new W4 0 0 0)
    obtain ⟨⟨y0, y1, y2⟩, yl⟩ := X.out
    go_wp2_with fail
    clear y0 y1 y2 yl X
    replace I := Lib.hid (I.out.alloc (.cells #[.int .i64 0, .int .u32 0, .int .u32 0] 33))
    refine (awake_any _).mono ?_
    rintro e W7 ⟨rfl, hb⟩
    replace I := Lib.hid (I.out.below hb)
    clear hb
    go_wp2
    go_ret
    exact ⟨rfl, hb0 ▸ I.out.g⟩
theorem w_long (v n r : Int) (s : ByteArray) (w : World) (hs : 300 < s.size) (hs2 : s.size ≤ 9223372036854775807) :
    Calls Tryd.prog 7 #[.agg #[.int .i64 v, .int .u32 n, .int .u32 r], .string s] w fun e w' => e = .returned (.bool true) ∧ Below w.heap.size w w' := by
  go_enter Tryd.func7, Tryd.ntmps7
  go_wp2_with fail
  refine (awake_any _).mono ?_
  rintro e w' ⟨rfl, hb⟩
  have B := Lib.hid (((Below.refl _ _).alloc (Nat.le_refl _) _).trans (hb.mono (by simp)))
  clear hb
  go_wp2
  go_ret
  exact ⟨rfl, B.out⟩

theorem walk (v n r : Int) (s : ByteArray) (w : World) (v0 : -9223372036854775808 ≤ v) (v1 : v ≤ 9223372036854775807) (n0 : 0 ≤ n) (n1 : n < 4294967296) (r0 : 0 ≤ r) (r1 : r < 4294967296) (hs : s.size ≤ 9223372036854775807) (ht : Tab w) (hw : Sen w) :
    Calls Tryd.prog 7 #[.agg #[.int .i64 v, .int .u32 n, .int .u32 r], .string s] w fun e w' => e = .returned (.bool true) ∧ Below w.heap.size w w' := by
  by_cases hl : 300 < s.size
  · exact w_long v n r s w hl hs
  · by_cases hz : r = 0
    · subst hz
      exact w_plain v n s w (by omega) v0 v1 n0 n1 ht hw
    · by_cases hg : Good r
      · exact w_good v n r s w (by omega) v0 v1 n0 n1 r0 r1 hg ht hw
      · exact w_bad v n r s w (by omega) v0 v1 n0 n1 r0 r1 hz hg ht hw
end Go.Proofs.YthcafhdokbejkaaDoor.wordParses
