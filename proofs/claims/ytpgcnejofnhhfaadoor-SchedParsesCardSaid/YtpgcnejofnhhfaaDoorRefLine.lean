/- The reference's Line: the line of a pick. -/
import Derived.Test.YtpgcnejofnhhfaaDoorTens
import Derived.Deep.RegionLaw
namespace Go.Proofs.YtpgcnejofnhhfaaDoor
open Go.ChangeShapes Go.WideShapes Go.ChangeAt Go.RowKit
theorem Box37.cells {w : World} {b : Nat} {x0 x1 x2 : Value} {t : TypeId} (h : Box w b #[x0, x1, x2] t) : w.cell? ⟨b, 0, none⟩ = some x0 ∧ w.cell? ⟨b, 1, none⟩ = some x1 ∧ w.cell? ⟨b, 2, none⟩ = some x2 := h.cells3.1
/-- The box of the pick, and what is below. -/
structure RL (w : World) (b : Nat) (k t c : Int) (W : World) : Prop where
  x : Box W b #[.int .i64 k, .int .i64 t, .int .i64 c] 37
  b : Below w.heap.size w W
theorem RL.below {w W W' : World} {b : Nat} {k t c : Int} (h : RL w b k t c W) (hb : Below W.heap.size W W') : RL w b k t c W' := ⟨h.x.below hb, h.b.trans (hb.mono h.b.size)⟩
def RLineP (p : Pk) (w : World) (e : Ending) (w' : World) : Prop := e = .returned (.string ⟨(lineT p).toArray⟩) ∧ Below w.heap.size w w'
theorem sum_le {a b : ByteArray} (ha : a.size ≤ 1000) (hb : b.size ≤ 1000) : a.size + b.size ≤ 9223372036854775807 := by omega
theorem cat1 (t c : Int) : (⟨#[115, 116, 111, 112, 32]⟩ : ByteArray) ++ ⟨(Lib.itoa t).toArray⟩ ++ ⟨#[10]⟩ = ⟨(lineT (1, t, c)).toArray⟩ := by
  apply ByteArray.ext
  simp [ByteArray.data_append, lineT, kwL]
theorem cat2 (t c : Int) : (⟨#[99, 114, 97, 115, 104, 32]⟩ : ByteArray) ++ ⟨(Lib.itoa c).toArray⟩ ++ ⟨#[10]⟩ = ⟨(lineT (2, t, c)).toArray⟩ := by
  apply ByteArray.ext
  simp [ByteArray.data_append, lineT, kwL]
theorem cat0 (t c : Int) : (⟨#[115, 116, 101, 112, 32]⟩ : ByteArray) ++ ⟨(Lib.itoa t).toArray⟩ ++ ⟨#[32]⟩ ++ ⟨(Lib.itoa c).toArray⟩ ++ ⟨#[10]⟩ = ⟨(lineT (0, t, c)).toArray⟩ := by
  apply ByteArray.ext
  simp [ByteArray.data_append, lineT, kwL]
set_option maxRecDepth 100000 in
set_option maxHeartbeats 1600000 in
theorem rline1 (t c : Int) (w : World) (h0 : -9223372036854775808 < t) (h1 : t < 9223372036854775808) : Calls Tryd.prog 17 #[.agg #[.int .i64 1, .int .i64 t, .int .i64 c]] w (RLineP (1, t, c) w) := by
  have I := Lib.hid (show RL w w.heap.size 1 t c (w.alloc (.cells #[.int .i64 1, .int .i64 t, .int .i64 c] 37)) from ⟨Box.new w _ 37 rfl, below1 _ _⟩)
  have hil : (Lib.itoa t).length ≤ 21 := itoa_le (by unfold I64; omega)
  have hs1 : 5 + (Lib.itoa t).length ≤ 9223372036854775807 := by omega
  have hs2 : 5 + (Lib.itoa t).length + 1 ≤ 9223372036854775807 := by omega
  have HC := Lib.hid (cat1 t c)
  obtain ⟨k0, k1, k2⟩ := Box37.cells I.out.x
  go_enter Tryd.func17, Tryd.ntmps17
  go_wp2_with fail
  refine (tens_any t _ h0 h1).mono ?_
  rintro e w1 ⟨rfl, hb⟩
  replace I := Lib.hid (I.out.below hb)
  clear hb k0 k1 k2
  go_wp2_with fail
  go_ret
  refine ⟨?_, I.out.b⟩
  rw [← HC.out]; rfl
set_option maxRecDepth 100000 in
set_option maxHeartbeats 1600000 in
theorem rline2 (t c : Int) (w : World) (h0 : -9223372036854775808 < c) (h1 : c < 9223372036854775808) : Calls Tryd.prog 17 #[.agg #[.int .i64 2, .int .i64 t, .int .i64 c]] w (RLineP (2, t, c) w) := by
  have I := Lib.hid (show RL w w.heap.size 2 t c (w.alloc (.cells #[.int .i64 2, .int .i64 t, .int .i64 c] 37)) from ⟨Box.new w _ 37 rfl, below1 _ _⟩)
  have hil : (Lib.itoa c).length ≤ 21 := itoa_le (by unfold I64; omega)
  have hs1 : 6 + (Lib.itoa c).length ≤ 9223372036854775807 := by omega
  have hs2 : 6 + (Lib.itoa c).length + 1 ≤ 9223372036854775807 := by omega
  have HC := Lib.hid (cat2 t c)
  obtain ⟨k0, k1, k2⟩ := Box37.cells I.out.x
  go_enter Tryd.func17, Tryd.ntmps17
  go_wp2_with fail
  refine (tens_any c _ h0 h1).mono ?_
  rintro e w1 ⟨rfl, hb⟩
  replace I := Lib.hid (I.out.below hb)
  clear hb k0 k1 k2
  go_wp2_with fail
  go_ret
  refine ⟨?_, I.out.b⟩
  rw [← HC.out]; rfl
set_option maxRecDepth 100000 in
set_option maxHeartbeats 1600000 in
theorem rline0 (t c : Int) (w : World) (t0 : -9223372036854775808 < t) (t1 : t < 9223372036854775808) (c0 : -9223372036854775808 < c) (c1 : c < 9223372036854775808) : Calls Tryd.prog 17 #[.agg #[.int .i64 0, .int .i64 t, .int .i64 c]] w (RLineP (0, t, c) w) := by
  have I := Lib.hid (show RL w w.heap.size 0 t c (w.alloc (.cells #[.int .i64 0, .int .i64 t, .int .i64 c] 37)) from ⟨Box.new w _ 37 rfl, below1 _ _⟩)
  have hil : (Lib.itoa t).length ≤ 21 := itoa_le (by unfold I64; omega)
  have hil2 : (Lib.itoa c).length ≤ 21 := itoa_le (by unfold I64; omega)
  have hs1 : 5 + (Lib.itoa t).length ≤ 9223372036854775807 := by omega
  have hs2 : 5 + (Lib.itoa t).length + 1 ≤ 9223372036854775807 := by omega
  have hs3 : 5 + (Lib.itoa t).length + 1 + (Lib.itoa c).length ≤ 9223372036854775807 := by omega
  have hs4 : 5 + (Lib.itoa t).length + 1 + (Lib.itoa c).length + 1 ≤ 9223372036854775807 := by omega
  have hq1 : ¬ 9223372036854775807 < 5 + (Lib.itoa t).length := by omega
  have hq2 : ¬ 9223372036854775807 < 5 + (Lib.itoa t).length + 1 := by omega
  have hq3 : ¬ 9223372036854775807 < 5 + (Lib.itoa t).length + 1 + (Lib.itoa c).length := by omega
  have hq4 : ¬ 9223372036854775807 < 5 + (Lib.itoa t).length + 1 + (Lib.itoa c).length + 1 := by omega
  have HC := Lib.hid (cat0 t c)
  obtain ⟨k0, k1, k2⟩ := Box37.cells I.out.x
  go_enter Tryd.func17, Tryd.ntmps17
  go_wp2_with fail
  clear k0 k1 k2
  generalize w.alloc (.cells #[.int .i64 0, .int .i64 t, .int .i64 c] 37) = W0 at *
  obtain ⟨b, hb0⟩ : ∃ b, w.heap.size = b := ⟨_, rfl⟩
  rw [hb0] at I ⊢
  have i0 := I.out
  have i1 : RL w b 0 t c W0.drew := i0.below (Below.refl _ _).drew
  clear I
  obtain ⟨k0, k1, k2⟩ := Box37.cells i0.x
  go_region_law (first
    | (go_simp; go_at_call 31; (with_reducible refine (tens_any t _ t0 t1).mono ?_); rintro e w5 ⟨rfl, hb5⟩; have i2 := i1.below hb5; clear hb5 i1; have i1 := i2; clear i2; obtain ⟨z0, z1, z2⟩ := Box37.cells i1.x)
    | (go_simp; go_at_call 31; (with_reducible refine (tens_any c _ c0 c1).mono ?_); rintro e w5 ⟨rfl, hb5⟩; have i2 := i1.below hb5; clear hb5 i1; have i1 := i2; clear i2; obtain ⟨z0, z1, z2⟩ := Box37.cells i1.x))
  all_goals (
    go_wp2_with fail
    go_ret
    refine ⟨?_, i1.b⟩
    rw [← HC.out]; rfl)
theorem rline_any (p : Pk) (w : World) (hk : p.1 = 0 ∨ p.1 = 1 ∨ p.1 = 2) (t0 : -9223372036854775808 < p.2.1) (t1 : p.2.1 < 9223372036854775808) (c0 : -9223372036854775808 < p.2.2) (c1 : p.2.2 < 9223372036854775808) :
    Calls Tryd.prog 17 #[.agg #[.int .i64 p.1, .int .i64 p.2.1, .int .i64 p.2.2]] w (RLineP p w) := by
  obtain ⟨k, t, c⟩ := p
  rcases hk with rfl | rfl | rfl
  · exact rline0 t c w t0 t1 c0 c1
  · exact rline1 t c w t0 t1
  · exact rline2 t c w c0 c1
end Go.Proofs.YtpgcnejofnhhfaaDoor
