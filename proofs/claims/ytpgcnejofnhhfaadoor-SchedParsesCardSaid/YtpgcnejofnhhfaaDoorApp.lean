/- One line more: appendLine of package sched. -/
import Derived.Test.YtpgcnejofnhhfaaDoorBytes
import Derived.Lib.ItoaLen
namespace Go.Proofs.YtpgcnejofnhhfaaDoor
open Go.ChangeShapes Go.WideShapes Go.ChangeAt Go.RowKit Go.Shelf Go.Maps

def kwL (k : Int) : List UInt8 := if k = 0 then [115, 116, 101, 112] else if k = 1 then [115, 116, 111, 112] else [99, 114, 97, 115, 104]
/-- The line of a pick, with its line feed. -/
def lineT (p : Pk) : List UInt8 := kwL p.1 ++ (if p.1 = 2 then [] else [32] ++ Lib.itoa p.2.1) ++ (if p.1 = 1 then [] else [32] ++ Lib.itoa p.2.2) ++ [10]
/-- What appendLine keeps: the text, the box of the pick, the variables. -/
structure LA (B : Nat) (w : World) (b : Nat) (p : Pk) (v : Value) (l : List UInt8) (W : World) : Prop where
  r : BRow B W v l
  x : Box W b #[.int .i64 p.1, .int .i64 p.2.1, .int .i64 p.2.2] 35
  g : Gl W
  t : Tab W
  b : Below B w W
  h9 : 9 ≤ B
theorem LA.size {B : Nat} {w W : World} {b : Nat} {p : Pk} {v : Value} {l : List UInt8} (h : LA B w b p v l W) (hB : B ≤ w.heap.size) : B ≤ W.heap.size := Nat.le_trans hB h.b.size
theorem LA.below {B : Nat} {w W W' : World} {b : Nat} {p : Pk} {v : Value} {l : List UInt8} (h : LA B w b p v l W) (hB : B ≤ w.heap.size) (hb : Below W.heap.size W W') : LA B w b p v l W' :=
  ⟨h.r.below hb, h.x.below hb, h.g.below hb, h.t.below hb (by have := h.size hB; have := h.h9; omega), h.b.trans (hb.mono (h.size hB)), h.h9⟩
theorem LA.grown {B : Nat} {w W W' : World} {b : Nat} {p : Pk} {v v' : Value} {l l' : List UInt8} (h : LA B w b p v l W) (hB : B ≤ w.heap.size) (hg : W.grownBy W' v.ownBlock) (hr : BRow B W' v' l') : LA B w b p v' l' W' := by
  have hb : Below B w W' := h.b.grown hg (h.size hB) (fun j hj => (World.ownsRow.lt h.r j hj).1)
  have hb2 : Below B W W' := (Below.refl W.heap.size W |>.mono (h.size hB)).grown hg (h.size hB) (fun j hj => (World.ownsRow.lt h.r j hj).1)
  exact ⟨hr, h.x.grown hg (box_apart h.x h.r), h.g.belowN hb2 h.h9, h.t.below hb2 (by have := h.h9; omega), hb, h.h9⟩
theorem LA.int {B : Nat} {w W W' : World} {b : Nat} {p : Pk} {v v' : Value} {l l' : List UInt8} (h : LA B w b p v l W) (hr : BRow B W' v' l') (hb : Below B W W') (hx : ∀ b cs, Box W b cs 35 → Box W' b cs 35) : LA B w b p v' l' W' :=
  ⟨hr, hx _ _ h.x, h.g.belowN hb h.h9, h.t.below hb (by have := h.h9; omega), h.b.trans hb, h.h9⟩
theorem itoa_le {i : Int} (h : I64 i) : (Lib.itoa i).length ≤ 21 := Lib.itoa_length_le i h.1 (by have := h.2; omega)
theorem LA.new {B : Nat} {w : World} {v : Value} {l : List UInt8} (p : Pk) (hr : BRow B w v l) (hB : B ≤ w.heap.size) (h9 : 9 ≤ B) (hg : Gl w) (ht : Tab w) : LA B w w.heap.size p v l (w.alloc (.cells #[.int .i64 p.1, .int .i64 p.2.1, .int .i64 p.2.2] 35)) :=
  have b1 := below1 w (.cells #[.int .i64 p.1, .int .i64 p.2.1, .int .i64 p.2.2] 35)
  ⟨hr.below b1, Box.new w _ 35 rfl, hg.below b1, ht.below b1 (by omega), b1.mono hB, h9⟩

set_option maxRecDepth 100000 in
set_option maxHeartbeats 3200000 in
theorem app0 (B : Nat) (t c : Int) (sv : Value) (l : List UInt8) (w : World) (ht : I64 t) (hc : I64 c) (hr : BRow B w sv l) (hB : B ≤ w.heap.size) (h9 : 9 ≤ B) (hl : l.length ≤ 1000000) (hg : Gl w) (hT : Tab w) :
    Calls Tryd.prog 30 #[sv, .agg #[.int .i64 0, .int .i64 t, .int .i64 c]] w fun e w' => ∃ v', e = .returned v' ∧ BRow B w' v' (l ++ lineT (0, t, c)) ∧ Below B w w' := by
  obtain ⟨i0, hi, hz0, hz1, hz2⟩ := info_parts info5
  have I := Lib.hid (LA.new (0, t, c) hr hB h9 hg hT)
  have HI1 := Lib.hid ht
  have HI2 := Lib.hid hc
  clear ht hc hr hg hT
  simp only at I
  obtain ⟨k0, k1, k2, -, -, -, -⟩ := I.out.g
  have hws0 := I.out.size hB
  go_enter Tryd.func30, Tryd.ntmps30
  go_wp2_with (first
    | (at_builtin; refine Lib.wpList_append_own_string _ rfl (.tmp 5) (.tmp 9) 56 9 rfl B 5 i0 Tryd.underlying56 Tryd.underlying9 hi hz0 hz1 hz2 _ l.length (Lib.byteCells l) rfl I.out.r ⟨#[115, 116, 101, 112]⟩ rfl (by unfold maxLen; show l.length + 4 ≤ _; omega) (by show l.length + 4 ≤ _; omega) hws0 ?_; intro v1 W1 hown hgrow _; have I1 := Lib.hid (I.out.grown hB hgrow (brow_str hown)); clear hown hgrow k0 k1 k2; obtain ⟨x0, x1, x2⟩ := I1.out.x.cells3.1)
    | fail)
  refine (hasThread_any 0 _).mono ?_
  rintro e w' ⟨rfl, rfl⟩
  rw [ne02]
  clear x0 x1 x2
  replace I1 : Hid (LA B w w.heap.size (0, t, c) v1 (l ++ [115, 116, 101, 112]) W1) := I1
  clear I
  go_wp2_with fail
  have hws2 := I1.out.size hB
  have J2 := Lib.hid (I1.out.below hB (below1 W1 (.cells #[.int .u8 32] 5)))
  obtain ⟨xa2, xb2, xc2⟩ := I1.out.x.cells3.1
  obtain ⟨ya2, yb2, yc2⟩ := J2.out.x.cells3.1
  obtain ⟨cl2, hcl2⟩ : ∃ x, x = l ++ [115, 116, 101, 112] := ⟨_, rfl⟩
  have hN2 : cl2.length ≤ 1000300 := by rw [hcl2]; simp only [List.length_append, List.length_cons, List.length_nil]; omega
  have HR2 : Hid ((W1.alloc (.cells #[.int .u8 32] 5)).drew.ownsRow B 5 1 v1 cl2.length (Lib.byteCells cl2)) := Lib.hid (by rw [hcl2]; exact (J2.out.below hB (Below.refl _ _).drew).r)
  have HC2 := Lib.hid hcl2
  clear hcl2
  go_region_law (first
    | (refine step_append_lies _ rfl (.tmp 14) (.tmp 15) 56 rfl B 5 i0 (.int .u8 0) 1 1 Tryd.underlying56 hi hz0 hz1 hz2 rfl (by decide) v1 cl2.length (Lib.byteCells cl2) rfl HR2.out ⟨W1.heap.size, 0, none⟩ 1 1 (Lib.byteCells [32]) rfl rfl (byte_new _ 32 _ rfl) (byte_one 32) (by decide) (by unfold maxLen; omega) (by omega) (by simp; omega) (W1.heap.size + 1) (by simp) ?_; intro g2 gc2 Y2 hown hgrow hat hlt2; have K2 := Lib.hid ((J2.out.below hB (Below.refl _ _).drew).grown hB hgrow (brow_snoc hown)); obtain ⟨za2, zb2, zc2⟩ := K2.out.x.cells3.1; clear hown hgrow hat hlt2)
    | (go_simp; go_at_call 45; refine (appendInt_any B t _ (cl2 ++ [32]) _ HI1.out K2.out.r (K2.out.size hB) (by omega) (by rw [List.length_append]; simp only [List.length_cons, List.length_nil]; omega) K2.out.t).mono ?_; rintro e Z2 ⟨v2, rfl, hr3, hb3, hx3⟩; have I2 := Lib.hid (K2.out.int hr3 hb3 hx3); clear hr3 hb3 hx3))

  all_goals (
    obtain ⟨p0, p1, p2⟩ := I2.out.x.cells3.1
    go_wp2_with fail
    clear p0 p1 p2
    refine (hasChoice_any 0 _).mono ?_
    rintro e w' ⟨rfl, rfl⟩
    rw [ne01]
    go_wp2_with fail
    have hi2 := itoa_le HI1.out
    have hws3 := I2.out.size hB
    have J3 := Lib.hid (I2.out.below hB (below1 Z2 (.cells #[.int .u8 32] 5)))
    obtain ⟨xa3, xb3, xc3⟩ := I2.out.x.cells3.1
    obtain ⟨ya3, yb3, yc3⟩ := J3.out.x.cells3.1
    obtain ⟨cl3, hcl3⟩ : ∃ x, x = cl2 ++ [32] ++ Lib.itoa t := ⟨_, rfl⟩
    have hN3 : cl3.length ≤ 1000400 := by rw [hcl3]; simp only [List.length_append, List.length_cons, List.length_nil]; omega
    have HR3 : Hid ((Z2.alloc (.cells #[.int .u8 32] 5)).drew.ownsRow B 5 1 v2 cl3.length (Lib.byteCells cl3)) := Lib.hid (by rw [hcl3]; exact (J3.out.below hB (Below.refl _ _).drew).r)
    have HC3 := Lib.hid hcl3
    clear hcl3
    go_region_law (first
      | (refine step_append_lies _ rfl (.tmp 23) (.tmp 24) 56 rfl B 5 i0 (.int .u8 0) 1 1 Tryd.underlying56 hi hz0 hz1 hz2 rfl (by decide) v2 cl3.length (Lib.byteCells cl3) rfl HR3.out ⟨Z2.heap.size, 0, none⟩ 1 1 (Lib.byteCells [32]) rfl rfl (byte_new _ 32 _ rfl) (byte_one 32) (by decide) (by unfold maxLen; omega) (by omega) (by simp; omega) (Z2.heap.size + 1) (by simp) ?_; intro g3 gc3 Y3 hown hgrow hat hlt2; have K3 := Lib.hid ((J3.out.below hB (Below.refl _ _).drew).grown hB hgrow (brow_snoc hown)); obtain ⟨za3, zb3, zc3⟩ := K3.out.x.cells3.1; clear hown hgrow hat hlt2)
      | (go_simp; go_at_call 45; refine (appendInt_any B c _ (cl3 ++ [32]) _ HI2.out K3.out.r (K3.out.size hB) (by omega) (by rw [List.length_append]; simp only [List.length_cons, List.length_nil]; omega) K3.out.t).mono ?_; rintro e Z3 ⟨v3, rfl, hr3, hb3, hx3⟩; have I3 := Lib.hid (K3.out.int hr3 hb3 hx3); clear hr3 hb3 hx3))

    all_goals (
      have hi3 := itoa_le HI2.out
      obtain ⟨M9, hM9⟩ : ∃ x, x = cl3 ++ [32] ++ Lib.itoa c := ⟨_, rfl⟩
      have I9 : Hid (LA B w w.heap.size (0, t, c) v3 M9 Z3) := Lib.hid (by rw [hM9]; exact I3.out)
      have hL9 : M9.length ≤ 1001000 := by rw [hM9]; simp only [List.length_append, List.length_cons, List.length_nil]; omega
      have HM9 := Lib.hid hM9
      clear hM9
      have hs9 := I9.out.size hB
      have R9 : Hid ((Z3.alloc (.cells #[.int .u8 10] 5)).ownsRow B 5 1 v3 M9.length (Lib.byteCells M9)) := Lib.hid (I9.out.below hB (below1 _ _)).r
      go_wp2_with (first
        | (at_builtin; refine wpList_append_own _ rfl (.tmp 29) (.tmp 30) 56 rfl B 5 i0 (.int .u8 0) 1 1 Tryd.underlying56 hi hz0 hz1 hz2 rfl (by decide) v3 M9.length (Lib.byteCells M9) rfl R9.out ⟨Z3.heap.size, 0, none⟩ 1 1 (Lib.byteCells [10]) rfl rfl (byte_new _ 10 _ rfl) (byte_one 10) (by unfold maxLen; omega) (by omega) (by simp; omega) ?_; intro v9 W9 hown hgrow _; have IF := Lib.hid ((I9.out.below hB (below1 _ _)).grown hB hgrow (brow_snoc hown)); clear hown hgrow)
        | fail)
      go_ret
      refine ⟨_, rfl, ?_, IF.out.b⟩
      have := IF.out.r
      rw [HM9.out, HC3.out, HC2.out] at this
      simpa [lineT, kwL] using this))
set_option maxRecDepth 100000 in
set_option maxHeartbeats 3200000 in
theorem app1 (B : Nat) (t c : Int) (sv : Value) (l : List UInt8) (w : World) (ht : I64 t) (hc : I64 c) (hr : BRow B w sv l) (hB : B ≤ w.heap.size) (h9 : 9 ≤ B) (hl : l.length ≤ 1000000) (hg : Gl w) (hT : Tab w) :
    Calls Tryd.prog 30 #[sv, .agg #[.int .i64 1, .int .i64 t, .int .i64 c]] w fun e w' => ∃ v', e = .returned v' ∧ BRow B w' v' (l ++ lineT (1, t, c)) ∧ Below B w w' := by
  obtain ⟨i0, hi, hz0, hz1, hz2⟩ := info_parts info5
  have I := Lib.hid (LA.new (1, t, c) hr hB h9 hg hT)
  have HI1 := Lib.hid ht
  have HI2 := Lib.hid hc
  clear ht hc hr hg hT
  simp only at I
  obtain ⟨k0, k1, k2, -, -, -, -⟩ := I.out.g
  have hws0 := I.out.size hB
  go_enter Tryd.func30, Tryd.ntmps30
  go_wp2_with (first
    | (at_builtin; refine Lib.wpList_append_own_string _ rfl (.tmp 5) (.tmp 9) 56 9 rfl B 5 i0 Tryd.underlying56 Tryd.underlying9 hi hz0 hz1 hz2 _ l.length (Lib.byteCells l) rfl I.out.r ⟨#[115, 116, 111, 112]⟩ rfl (by unfold maxLen; show l.length + 4 ≤ _; omega) (by show l.length + 4 ≤ _; omega) hws0 ?_; intro v1 W1 hown hgrow _; have I1 := Lib.hid (I.out.grown hB hgrow (brow_str hown)); clear hown hgrow k0 k1 k2; obtain ⟨x0, x1, x2⟩ := I1.out.x.cells3.1)
    | fail)
  refine (hasThread_any 1 _).mono ?_
  rintro e w' ⟨rfl, rfl⟩
  rw [ne12]
  clear x0 x1 x2
  replace I1 : Hid (LA B w w.heap.size (1, t, c) v1 (l ++ [115, 116, 111, 112]) W1) := I1
  clear I
  go_wp2_with fail
  have hws2 := I1.out.size hB
  have J2 := Lib.hid (I1.out.below hB (below1 W1 (.cells #[.int .u8 32] 5)))
  obtain ⟨xa2, xb2, xc2⟩ := I1.out.x.cells3.1
  obtain ⟨ya2, yb2, yc2⟩ := J2.out.x.cells3.1
  obtain ⟨cl2, hcl2⟩ : ∃ x, x = l ++ [115, 116, 111, 112] := ⟨_, rfl⟩
  have hN2 : cl2.length ≤ 1000300 := by rw [hcl2]; simp only [List.length_append, List.length_cons, List.length_nil]; omega
  have HR2 : Hid ((W1.alloc (.cells #[.int .u8 32] 5)).drew.ownsRow B 5 1 v1 cl2.length (Lib.byteCells cl2)) := Lib.hid (by rw [hcl2]; exact (J2.out.below hB (Below.refl _ _).drew).r)
  have HC2 := Lib.hid hcl2
  clear hcl2
  go_region_law (first
    | (refine step_append_lies _ rfl (.tmp 14) (.tmp 15) 56 rfl B 5 i0 (.int .u8 0) 1 1 Tryd.underlying56 hi hz0 hz1 hz2 rfl (by decide) v1 cl2.length (Lib.byteCells cl2) rfl HR2.out ⟨W1.heap.size, 0, none⟩ 1 1 (Lib.byteCells [32]) rfl rfl (byte_new _ 32 _ rfl) (byte_one 32) (by decide) (by unfold maxLen; omega) (by omega) (by simp; omega) (W1.heap.size + 1) (by simp) ?_; intro g2 gc2 Y2 hown hgrow hat hlt2; have K2 := Lib.hid ((J2.out.below hB (Below.refl _ _).drew).grown hB hgrow (brow_snoc hown)); obtain ⟨za2, zb2, zc2⟩ := K2.out.x.cells3.1; clear hown hgrow hat hlt2)
    | (go_simp; go_at_call 45; refine (appendInt_any B t _ (cl2 ++ [32]) _ HI1.out K2.out.r (K2.out.size hB) (by omega) (by rw [List.length_append]; simp only [List.length_cons, List.length_nil]; omega) K2.out.t).mono ?_; rintro e Z2 ⟨v2, rfl, hr3, hb3, hx3⟩; have I2 := Lib.hid (K2.out.int hr3 hb3 hx3); clear hr3 hb3 hx3))

  all_goals (
    obtain ⟨p0, p1, p2⟩ := I2.out.x.cells3.1
    go_wp2_with fail
    clear p0 p1 p2
    refine (hasChoice_any 1 _).mono ?_
    rintro e w' ⟨rfl, rfl⟩
    rw [ne11]
    have hi2 := itoa_le HI1.out
    obtain ⟨M9, hM9⟩ : ∃ x, x = cl2 ++ [32] ++ Lib.itoa t := ⟨_, rfl⟩
    have I9 : Hid (LA B w w.heap.size (1, t, c) v2 M9 Z2) := Lib.hid (by rw [hM9]; exact I2.out)
    have hL9 : M9.length ≤ 1001000 := by rw [hM9]; simp only [List.length_append, List.length_cons, List.length_nil]; omega
    have HM9 := Lib.hid hM9
    clear hM9
    have hs9 := I9.out.size hB
    have R9 : Hid ((Z2.alloc (.cells #[.int .u8 10] 5)).ownsRow B 5 1 v2 M9.length (Lib.byteCells M9)) := Lib.hid (I9.out.below hB (below1 _ _)).r
    go_wp2_with (first
      | (at_builtin; refine wpList_append_own _ rfl (.tmp 29) (.tmp 30) 56 rfl B 5 i0 (.int .u8 0) 1 1 Tryd.underlying56 hi hz0 hz1 hz2 rfl (by decide) v2 M9.length (Lib.byteCells M9) rfl R9.out ⟨Z2.heap.size, 0, none⟩ 1 1 (Lib.byteCells [10]) rfl rfl (byte_new _ 10 _ rfl) (byte_one 10) (by unfold maxLen; omega) (by omega) (by simp; omega) ?_; intro v9 W9 hown hgrow _; have IF := Lib.hid ((I9.out.below hB (below1 _ _)).grown hB hgrow (brow_snoc hown)); clear hown hgrow)
      | fail)
    go_ret
    refine ⟨_, rfl, ?_, IF.out.b⟩
    have := IF.out.r
    rw [HM9.out, HC2.out] at this
    simpa [lineT, kwL] using this)
set_option maxRecDepth 100000 in
set_option maxHeartbeats 3200000 in
theorem app2 (B : Nat) (t c : Int) (sv : Value) (l : List UInt8) (w : World) (ht : I64 t) (hc : I64 c) (hr : BRow B w sv l) (hB : B ≤ w.heap.size) (h9 : 9 ≤ B) (hl : l.length ≤ 1000000) (hg : Gl w) (hT : Tab w) :
    Calls Tryd.prog 30 #[sv, .agg #[.int .i64 2, .int .i64 t, .int .i64 c]] w fun e w' => ∃ v', e = .returned v' ∧ BRow B w' v' (l ++ lineT (2, t, c)) ∧ Below B w w' := by
  obtain ⟨i0, hi, hz0, hz1, hz2⟩ := info_parts info5
  have I := Lib.hid (LA.new (2, t, c) hr hB h9 hg hT)
  have HI1 := Lib.hid ht
  have HI2 := Lib.hid hc
  clear ht hc hr hg hT
  simp only at I
  obtain ⟨k0, k1, k2, -, -, -, -⟩ := I.out.g
  have hws0 := I.out.size hB
  go_enter Tryd.func30, Tryd.ntmps30
  go_wp2_with (first
    | (at_builtin; refine Lib.wpList_append_own_string _ rfl (.tmp 5) (.tmp 9) 56 9 rfl B 5 i0 Tryd.underlying56 Tryd.underlying9 hi hz0 hz1 hz2 _ l.length (Lib.byteCells l) rfl I.out.r ⟨#[99, 114, 97, 115, 104]⟩ rfl (by unfold maxLen; show l.length + 5 ≤ _; omega) (by show l.length + 5 ≤ _; omega) hws0 ?_; intro v1 W1 hown hgrow _; have I1 := Lib.hid (I.out.grown hB hgrow (brow_str hown)); clear hown hgrow k0 k1 k2; obtain ⟨x0, x1, x2⟩ := I1.out.x.cells3.1)
    | fail)
  refine (hasThread_any 2 _).mono ?_
  rintro e w' ⟨rfl, rfl⟩
  rw [ne22]
  clear x0 x1 x2
  replace I1 : Hid (LA B w w.heap.size (2, t, c) v1 (l ++ [99, 114, 97, 115, 104]) W1) := I1
  clear I
  obtain ⟨p0, p1, p2⟩ := I1.out.x.cells3.1
  go_wp2_with fail
  clear p0 p1 p2
  refine (hasChoice_any 2 _).mono ?_
  rintro e w' ⟨rfl, rfl⟩
  rw [ne21]
  go_wp2_with fail
  have hws2 := I1.out.size hB
  have J2 := Lib.hid (I1.out.below hB (below1 W1 (.cells #[.int .u8 32] 5)))
  obtain ⟨xa2, xb2, xc2⟩ := I1.out.x.cells3.1
  obtain ⟨ya2, yb2, yc2⟩ := J2.out.x.cells3.1
  obtain ⟨cl2, hcl2⟩ : ∃ x, x = l ++ [99, 114, 97, 115, 104] := ⟨_, rfl⟩
  have hN2 : cl2.length ≤ 1000300 := by rw [hcl2]; simp only [List.length_append, List.length_cons, List.length_nil]; omega
  have HR2 : Hid ((W1.alloc (.cells #[.int .u8 32] 5)).drew.ownsRow B 5 1 v1 cl2.length (Lib.byteCells cl2)) := Lib.hid (by rw [hcl2]; exact (J2.out.below hB (Below.refl _ _).drew).r)
  have HC2 := Lib.hid hcl2
  clear hcl2
  go_region_law (first
    | (refine step_append_lies _ rfl (.tmp 23) (.tmp 24) 56 rfl B 5 i0 (.int .u8 0) 1 1 Tryd.underlying56 hi hz0 hz1 hz2 rfl (by decide) v1 cl2.length (Lib.byteCells cl2) rfl HR2.out ⟨W1.heap.size, 0, none⟩ 1 1 (Lib.byteCells [32]) rfl rfl (byte_new _ 32 _ rfl) (byte_one 32) (by decide) (by unfold maxLen; omega) (by omega) (by simp; omega) (W1.heap.size + 1) (by simp) ?_; intro g2 gc2 Y2 hown hgrow hat hlt2; have K2 := Lib.hid ((J2.out.below hB (Below.refl _ _).drew).grown hB hgrow (brow_snoc hown)); obtain ⟨za2, zb2, zc2⟩ := K2.out.x.cells3.1; clear hown hgrow hat hlt2)
    | (go_simp; go_at_call 45; refine (appendInt_any B c _ (cl2 ++ [32]) _ HI2.out K2.out.r (K2.out.size hB) (by omega) (by rw [List.length_append]; simp only [List.length_cons, List.length_nil]; omega) K2.out.t).mono ?_; rintro e Z2 ⟨v2, rfl, hr3, hb3, hx3⟩; have I2 := Lib.hid (K2.out.int hr3 hb3 hx3); clear hr3 hb3 hx3))

  all_goals (
    have hi2 := itoa_le HI2.out
    obtain ⟨M9, hM9⟩ : ∃ x, x = cl2 ++ [32] ++ Lib.itoa c := ⟨_, rfl⟩
    have I9 : Hid (LA B w w.heap.size (2, t, c) v2 M9 Z2) := Lib.hid (by rw [hM9]; exact I2.out)
    have hL9 : M9.length ≤ 1001000 := by rw [hM9]; simp only [List.length_append, List.length_cons, List.length_nil]; omega
    have HM9 := Lib.hid hM9
    clear hM9
    have hs9 := I9.out.size hB
    have R9 : Hid ((Z2.alloc (.cells #[.int .u8 10] 5)).ownsRow B 5 1 v2 M9.length (Lib.byteCells M9)) := Lib.hid (I9.out.below hB (below1 _ _)).r
    go_wp2_with (first
      | (at_builtin; refine wpList_append_own _ rfl (.tmp 29) (.tmp 30) 56 rfl B 5 i0 (.int .u8 0) 1 1 Tryd.underlying56 hi hz0 hz1 hz2 rfl (by decide) v2 M9.length (Lib.byteCells M9) rfl R9.out ⟨Z2.heap.size, 0, none⟩ 1 1 (Lib.byteCells [10]) rfl rfl (byte_new _ 10 _ rfl) (byte_one 10) (by unfold maxLen; omega) (by omega) (by simp; omega) ?_; intro v9 W9 hown hgrow _; have IF := Lib.hid ((I9.out.below hB (below1 _ _)).grown hB hgrow (brow_snoc hown)); clear hown hgrow)
      | fail)
    go_ret
    refine ⟨_, rfl, ?_, IF.out.b⟩
    have := IF.out.r
    rw [HM9.out, HC2.out] at this
    simpa [lineT, kwL] using this)
end Go.Proofs.YtpgcnejofnhhfaaDoor
