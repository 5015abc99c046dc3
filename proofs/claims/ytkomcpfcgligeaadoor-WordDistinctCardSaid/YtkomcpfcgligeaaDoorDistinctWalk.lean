/- Statement WordDistinct: the walk through the law for every input. -/
import Derived.Test.YtkomcpfcgligeaaDoorEq
import Derived.Test.YtkomcpfcgligeaaDoorText
import Derived.Test.YtkomcpfcgligeaaDoorNum
import Derived.WalkKit
import Derived.WalkSpells
import Derived.WalkLawsBesides
import Derived.ProofKit
import Derived.OpenShut
import Derived.Lib.Hide
import Derived.Laws.StructEq
import Derived.Deep.RegionHeld3
namespace Go.Proofs.YtkomcpfcgligeaaDoor.wordDistinct
open Go.ChangeShapes Go.WideShapes Go.ChangeAt Go.RowKit

/-- The two numbers make a reference. -/
def Fits (a b : Int) : Prop := 1 ≤ a ∧ a ≤ 72 ∧ 1 ≤ b ∧ b ≤ 16777215

set_option maxHeartbeats 400000 in
theorem walk_n1 (a0 a1 b0 b1 v n q : Int) (hf : ¬ Fits a0 a1) (hg : Fits b0 b1) (w : World) :
    Calls Tryd.prog 8 #[.agg #[.int .i64 a0, .int .i64 a1], .agg #[.int .i64 b0, .int .i64 b1], .agg #[.int .i64 v, .int .u32 n, .int .u32 q]] w fun e w' => e = .returned (.bool true) ∧ Below w.heap.size w w' := by
  have F := Lib.hid hf
  have G := Lib.hid hg
  clear hf hg
  go_enter Tryd.func8, Tryd.ntmps8
  go_wp2_with fail
  refine (ref_no _ _ _ F.out).mono ?_
  rintro e w' ⟨rfl, rfl⟩
  go_wp2_with fail
  refine (ref_ok _ _ _ G.out.1 G.out.2.1 G.out.2.2.1 G.out.2.2.2).mono ?_
  rintro e w' ⟨rfl, rfl⟩
  go_wp2_with fail
  refine (awake_any _).mono ?_
  rintro e w' ⟨rfl, hb⟩
  have B := Lib.hid ((b3 w _ _ _).trans (hb.mono (by simp; omega)))
  clear hb
  go_wp2
  go_ret
  exact ⟨rfl, B.out⟩

set_option maxHeartbeats 400000 in
theorem walk_n2 (a0 a1 b0 b1 v n q : Int) (hf : ¬ Fits b0 b1) (w : World) :
    Calls Tryd.prog 8 #[.agg #[.int .i64 a0, .int .i64 a1], .agg #[.int .i64 b0, .int .i64 b1], .agg #[.int .i64 v, .int .u32 n, .int .u32 q]] w fun e w' => e = .returned (.bool true) ∧ Below w.heap.size w w' := by
  have F := Lib.hid hf
  clear hf
  by_cases hg : Fits a0 a1
  · have G := Lib.hid hg
    clear hg
    go_enter Tryd.func8, Tryd.ntmps8
    go_wp2_with fail
    refine (ref_ok _ _ _ G.out.1 G.out.2.1 G.out.2.2.1 G.out.2.2.2).mono ?_
    rintro e w' ⟨rfl, rfl⟩
    go_wp2_with fail
    refine (ref_no _ _ _ F.out).mono ?_
    rintro e w' ⟨rfl, rfl⟩
    go_wp2_with fail
    refine (awake_any _).mono ?_
    rintro e w' ⟨rfl, hb⟩
    have B := Lib.hid ((b3 w _ _ _).trans (hb.mono (by simp; omega)))
    clear hb
    go_wp2
    go_ret
    exact ⟨rfl, B.out⟩
  · have G := Lib.hid hg
    clear hg
    go_enter Tryd.func8, Tryd.ntmps8
    go_wp2_with fail
    refine (ref_no _ _ _ G.out).mono ?_
    rintro e w' ⟨rfl, rfl⟩
    go_wp2_with fail
    refine (ref_no _ _ _ F.out).mono ?_
    rintro e w' ⟨rfl, rfl⟩
    go_wp2_with fail
    refine (awake_any _).mono ?_
    rintro e w' ⟨rfl, hb⟩
    have B := Lib.hid ((b3 w _ _ _).trans (hb.mono (by simp; omega)))
    clear hb
    go_wp2
    go_ret
    exact ⟨rfl, B.out⟩

theorem gA : Tryd.prog.eqGuardType Tryd.prog.depth 45 = false := by kernel_rfl

theorem cells3 : Tryd.prog.cellsOf 3 = 1 := by kernel_rfl
theorem info3 : ∃ i, Tryd.prog.info? 3 = some i := by
  have h : (Tryd.prog.info? 3).isSome = true := by kernel_rfl
  exact Option.isSome_iff_exists.1 h

theorem equalA (a b a' b' : Int) (w : World) : (Op.equalIn 10000 45 (.agg #[.int .i64 a, .int .i64 b]) (.agg #[.int .i64 a', .int .i64 b'])).run Tryd.prog w = .ok (a == a' && b == b') w := by
  have u3 := Tryd.underlying3
  have a3 := Tryd.isAgg3
  have z3 := Tryd.sizeOf3
  obtain ⟨i, hi⟩ := info3
  rw [show (10000 : Nat) = 9999 + 1 from rfl, run_equalIn_array w 9999 _ _ Tryd.underlying45 hi, cells3]
  simp only [show List.range 2 = [0, 1] from rfl, Op.eqItems, Sem.run_bind]
  go_simp
  by_cases h1 : a = a' <;> by_cases h2 : b = b' <;> simp [h1, h2]

theorem eqlA (a b a' b' : Int) (w : World) : (binOp .eql 45 (.agg #[.int .i64 a, .int .i64 b]) (.agg #[.int .i64 a', .int .i64 b'])).run Tryd.prog w = .ok (.bool (a == a' && b == b')) w := by
  rw [run_eql_struct, equalA]; rfl

/-- A block holds two ints. -/
def HasA (w : World) (b : Nat) (x y : Int) : Prop := (w.cell? ⟨b, 0, none⟩ = some (.int .i64 x) ∧ w.cell? ⟨b, 1, none⟩ = some (.int .i64 y)) ∧ b < w.heap.size
theorem HasA.new (w : World) (x y : Int) : HasA (w.alloc (.cells #[.int .i64 x, .int .i64 y] 45)) w.heap.size x y := by
  refine ⟨⟨?_, ?_⟩, by simp⟩ <;> simp [go_sem]
theorem HasA.below {W w1 : World} {b : Nat} {x y : Int} (h : HasA W b x y) (hb : Below W.heap.size W w1) : HasA w1 b x y := by
  obtain ⟨⟨h0, h1⟩, hl⟩ := h
  exact ⟨⟨(hb.cell hl).trans h0, (hb.cell hl).trans h1⟩, Nat.lt_of_lt_of_le hl hb.size⟩
theorem HasA.alloc {W : World} {b : Nat} {x y : Int} (h : HasA W b x y) (o : Obj) : HasA (W.alloc o) b x y :=
  h.below ((Below.refl _ _).alloc (Nat.le_refl _) o)

/-- What the last statement of the law reads, in a world that has grown out of w. -/
structure Inv (w : World) (bp bx by' : Nat) (a0 a1 b0 b1 v n r s : Int) (W : World) : Prop where
  a : HasA W bp a0 a1
  b : HasA W (bp + 1) b0 b1
  c : HasW W (bp + 1 + 1) v n 0
  x : HasW W bx v n r
  y : HasW W by' v n s
  t : Tab W
  g : Below bp w W

theorem Inv.below {w : World} {bp bx by' : Nat} {a0 a1 b0 b1 v n r s : Int} {W W' : World} (h : Inv w bp bx by' a0 a1 b0 b1 v n r s W) (hb : Below W.heap.size W W') : Inv w bp bx by' a0 a1 b0 b1 v n r s W' :=
  ⟨h.a.below hb, h.b.below hb, h.c.below hb, h.x.below hb, h.y.below hb, h.t.below hb, h.g.trans (hb.mono (Nat.le_of_lt h.a.2))⟩
theorem Inv.drew {w : World} {bp bx by' : Nat} {a0 a1 b0 b1 v n r s : Int} {W : World} (h : Inv w bp bx by' a0 a1 b0 b1 v n r s W) : Inv w bp bx by' a0 a1 b0 b1 v n r s W.drew :=
  ⟨h.a, h.b, h.c, h.x, h.y, h.t, h.g.drew⟩

set_option maxRecDepth 100000 in
set_option maxHeartbeats 1600000 in
theorem walk_y (a0 a1 b0 b1 v n q : Int) (v0 : -9223372036854775808 ≤ v) (v1 : v ≤ 9223372036854775807) (n0 : 0 ≤ n) (n1 : n < 4294967296) (hf : Fits a0 a1) (hg : Fits b0 b1) (w : World) (htab : Tab w)
    (eqab : (a0 == b0 && a1 == b1) = false) (eqrs : ((a0 * 16777216 + a1 : Int) == b0 * 16777216 + b1) = false)
    (eqt : (textOf v n (a0 * 16777216 + a1) == textOf v n (b0 * 16777216 + b1)) = false) (neqt : (textOf v n (a0 * 16777216 + a1) == textOf v n 0) = false) :
    Calls Tryd.prog 8 #[.agg #[.int .i64 a0, .int .i64 a1], .agg #[.int .i64 b0, .int .i64 b1], .agg #[.int .i64 v, .int .u32 n, .int .u32 q]] w fun e w' => e = .returned (.bool true) ∧ Below w.heap.size w w' := by
  have F := Lib.hid hf
  have G := Lib.hid hg
  have GA : Hid (Good (a0 * 16777216 + a1)) := by obtain ⟨f1, f2, f3, f4⟩ := hf; show Good _; unfold Good; omega
  have GB : Hid (Good (b0 * 16777216 + b1)) := by obtain ⟨f1, f2, f3, f4⟩ := hg; show Good _; unfold Good; omega
  have ra0 : 0 ≤ a0 * 16777216 + a1 := by obtain ⟨f1, f2, f3, f4⟩ := hf; omega
  have ra1 : a0 * 16777216 + a1 < 4294967296 := by obtain ⟨f1, f2, f3, f4⟩ := hf; omega
  have rb0 : 0 ≤ b0 * 16777216 + b1 := by obtain ⟨f1, f2, f3, f4⟩ := hg; omega
  have rb1 : b0 * 16777216 + b1 < 4294967296 := by obtain ⟨f1, f2, f3, f4⟩ := hg; omega
  have HT := Lib.hid htab
  have ga := gA
  have eqA1 := fun w => eqlA a0 a1 b0 b1 w
  clear hf hg htab
  go_enter Tryd.func8, Tryd.ntmps8
  go_wp2_with fail
  refine (ref_ok _ _ _ F.out.1 F.out.2.1 F.out.2.2.1 F.out.2.2.2).mono ?_
  rintro e w' ⟨rfl, rfl⟩
  go_wp2_with fail
  refine (ref_ok _ _ _ G.out.1 G.out.2.1 G.out.2.2.1 G.out.2.2.2).mono ?_
  rintro e w' ⟨rfl, rfl⟩
  generalize a0 * 16777216 + a1 = r at *
  generalize b0 * 16777216 + b1 = s at *
  go_wp2_with fail
  refine (install_ok _ _ _ _ ra0 ra1 GA.out).mono ?_
  rintro e w1 ⟨rfl, hb1⟩
  have A1 := Lib.hid ((((HasA.new w a0 a1).alloc _).alloc _).below hb1)
  have A2 := Lib.hid (((HasA.new (w.alloc (.cells #[.int .i64 a0, .int .i64 a1] 45)) b0 b1).alloc _).below hb1)
  have A3 := Lib.hid ((HasW.new ((w.alloc (.cells #[.int .i64 a0, .int .i64 a1] 45)).alloc (.cells #[.int .i64 b0, .int .i64 b1] 45)) v n 0).below hb1)
  have A4 := Lib.hid ((((HT.out.alloc _).alloc _).alloc _).below hb1)
  have A5 := Lib.hid ((b3 w _ _ _).trans (hb1.mono (by simp; omega)))
  simp only [World.size_alloc] at A2 A3
  clear hb1 HT
  obtain ⟨⟨c0, c1, c2⟩, cl⟩ := A3.out
  go_wp2_with fail
  refine (install_ok _ _ _ _ rb0 rb1 GB.out).mono ?_
  rintro e w2 ⟨rfl, hb2⟩
  clear c0 c1 c2 cl
  have I2 : Inv w w.heap.size w1.heap.size w2.heap.size a0 a1 b0 b1 v n r s (w2.alloc (.cells #[.int .i64 v, .int .u32 n, .int .u32 s] 33)) :=
    ⟨((A1.out.alloc _).below hb2).alloc _, ((A2.out.alloc _).below hb2).alloc _, ((A3.out.alloc _).below hb2).alloc _, ((HasW.new w1 v n r).below hb2).alloc _, HasW.new w2 v n s, ((A4.out.alloc _).below hb2).alloc _,
      ((A5.out.alloc A5.out.size _).trans (hb2.mono (by have := A5.out.size; simp; omega))).alloc (by have := A5.out.size; have := hb2.size; simp at this; omega) _⟩
  clear hb2 A1 A2 A3 A4 A5
  have HI := Lib.hid I2
  clear I2
  go_wp2_with fail
  generalize w1.heap.size = bx at *
  generalize w2.heap.size = bz at *
  generalize hbp : w.heap.size = bp at *
  have HBP := Lib.hid hbp
  clear hbp
  generalize w2.alloc (.cells #[.int .i64 v, .int .u32 n, .int .u32 s] 33) = W at *
  have i0 := HI.out
  have i1 := i0.drew
  clear HI F G GA GB
  go_region_held3 (fun w' => (w'.cell? ⟨bp, 0, none⟩ = some (.int .i64 a0) ∧ w'.cell? ⟨bp, 1, none⟩ = some (.int .i64 a1)) ∧ (w'.cell? ⟨bp + 1, 0, none⟩ = some (.int .i64 b0) ∧ w'.cell? ⟨bp + 1, 1, none⟩ = some (.int .i64 b1)) ∧ (w'.cell? ⟨bp + 1 + 1, 0, none⟩ = some (.int .i64 v) ∧ w'.cell? ⟨bp + 1 + 1, 1, none⟩ = some (.int .u32 n) ∧ w'.cell? ⟨bp + 1 + 1, 2, none⟩ = some (.int .u32 0)) ∧ (w'.cell? ⟨bx, 0, none⟩ = some (.int .i64 v) ∧ w'.cell? ⟨bx, 1, none⟩ = some (.int .u32 n) ∧ w'.cell? ⟨bx, 2, none⟩ = some (.int .u32 r)) ∧ (w'.cell? ⟨bz, 0, none⟩ = some (.int .i64 v) ∧ w'.cell? ⟨bz, 1, none⟩ = some (.int .u32 n) ∧ w'.cell? ⟨bz, 2, none⟩ = some (.int .u32 s)))
    (first | exact ⟨i1.a.1, i1.b.1, i1.c.1, i1.x.1, i1.y.1⟩ | exact ⟨i0.a.1, i0.b.1, i0.c.1, i0.x.1, i0.y.1⟩)
    (first
      | (go_at_call 19; with_reducible refine (text_any _ _ _ _ v0 v1 n0 n1 (by omega) (by omega) i1.t).mono ?_; rintro e w5 ⟨rfl, hb5⟩; have i2 := i1.below hb5; clear hb5 i1; have i1 := i2; clear i2)
      | (go_at_call 13; with_reducible refine (awake_any _).mono ?_; rintro e w5 ⟨rfl, hb5⟩; have i2 := i1.below hb5; clear hb5 i1; have i1 := i2; clear i2))
  go_wp2
  go_ret
  have hbp := HBP.out
  subst hbp
  exact ⟨rfl, i1.g⟩

set_option maxRecDepth 100000 in
set_option maxHeartbeats 1600000 in
theorem walk_e (a0 a1 v n q : Int) (v0 : -9223372036854775808 ≤ v) (v1 : v ≤ 9223372036854775807) (n0 : 0 ≤ n) (n1 : n < 4294967296) (hf : Fits a0 a1) (w : World) (htab : Tab w)
    (neqt : (textOf v n (a0 * 16777216 + a1) == textOf v n 0) = false) :
    Calls Tryd.prog 8 #[.agg #[.int .i64 a0, .int .i64 a1], .agg #[.int .i64 a0, .int .i64 a1], .agg #[.int .i64 v, .int .u32 n, .int .u32 q]] w fun e w' => e = .returned (.bool true) ∧ Below w.heap.size w w' := by
  have F := Lib.hid hf
  have G := Lib.hid hf
  have GA : Hid (Good (a0 * 16777216 + a1)) := by obtain ⟨f1, f2, f3, f4⟩ := hf; show Good _; unfold Good; omega
  have ra0 : 0 ≤ a0 * 16777216 + a1 := by obtain ⟨f1, f2, f3, f4⟩ := hf; omega
  have ra1 : a0 * 16777216 + a1 < 4294967296 := by obtain ⟨f1, f2, f3, f4⟩ := hf; omega
  have HT := Lib.hid htab
  have ga := gA
  have eqA1 := fun w => eqlA a0 a1 a0 a1 w
  clear hf htab
  go_enter Tryd.func8, Tryd.ntmps8
  go_wp2_with fail
  refine (ref_ok _ _ _ F.out.1 F.out.2.1 F.out.2.2.1 F.out.2.2.2).mono ?_
  rintro e w' ⟨rfl, rfl⟩
  go_wp2_with fail
  refine (ref_ok _ _ _ F.out.1 F.out.2.1 F.out.2.2.1 F.out.2.2.2).mono ?_
  rintro e w' ⟨rfl, rfl⟩
  generalize a0 * 16777216 + a1 = r at *
  go_wp2_with fail
  refine (install_ok _ _ _ _ ra0 ra1 GA.out).mono ?_
  rintro e w1 ⟨rfl, hb1⟩
  have A1 := Lib.hid ((((HasA.new w a0 a1).alloc _).alloc _).below hb1)
  have A2 := Lib.hid (((HasA.new (w.alloc (.cells #[.int .i64 a0, .int .i64 a1] 45)) a0 a1).alloc _).below hb1)
  have A3 := Lib.hid ((HasW.new ((w.alloc (.cells #[.int .i64 a0, .int .i64 a1] 45)).alloc (.cells #[.int .i64 a0, .int .i64 a1] 45)) v n 0).below hb1)
  have A4 := Lib.hid ((((HT.out.alloc _).alloc _).alloc _).below hb1)
  have A5 := Lib.hid ((b3 w _ _ _).trans (hb1.mono (by simp; omega)))
  simp only [World.size_alloc] at A2 A3
  clear hb1 HT
  obtain ⟨⟨c0, c1, c2⟩, cl⟩ := A3.out
  go_wp2_with fail
  refine (install_ok _ _ _ _ ra0 ra1 GA.out).mono ?_
  rintro e w2 ⟨rfl, hb2⟩
  clear c0 c1 c2 cl
  have I2 : Inv w w.heap.size w1.heap.size w2.heap.size a0 a1 a0 a1 v n r r (w2.alloc (.cells #[.int .i64 v, .int .u32 n, .int .u32 r] 33)) :=
    ⟨((A1.out.alloc _).below hb2).alloc _, ((A2.out.alloc _).below hb2).alloc _, ((A3.out.alloc _).below hb2).alloc _, ((HasW.new w1 v n r).below hb2).alloc _, HasW.new w2 v n r, ((A4.out.alloc _).below hb2).alloc _,
      ((A5.out.alloc A5.out.size _).trans (hb2.mono (by have := A5.out.size; simp; omega))).alloc (by have := A5.out.size; have := hb2.size; simp at this; omega) _⟩
  clear hb2 A1 A2 A3 A4 A5
  have HI := Lib.hid I2
  clear I2
  go_wp2_with fail
  generalize w1.heap.size = bx at *
  generalize w2.heap.size = bz at *
  generalize hbp : w.heap.size = bp at *
  have HBP := Lib.hid hbp
  clear hbp
  generalize w2.alloc (.cells #[.int .i64 v, .int .u32 n, .int .u32 r] 33) = W at *
  have i0 := HI.out
  have i1 := i0.drew
  clear HI F G GA
  go_region_held3 (fun w' => (w'.cell? ⟨bp, 0, none⟩ = some (.int .i64 a0) ∧ w'.cell? ⟨bp, 1, none⟩ = some (.int .i64 a1)) ∧ (w'.cell? ⟨bp + 1, 0, none⟩ = some (.int .i64 a0) ∧ w'.cell? ⟨bp + 1, 1, none⟩ = some (.int .i64 a1)) ∧ (w'.cell? ⟨bp + 1 + 1, 0, none⟩ = some (.int .i64 v) ∧ w'.cell? ⟨bp + 1 + 1, 1, none⟩ = some (.int .u32 n) ∧ w'.cell? ⟨bp + 1 + 1, 2, none⟩ = some (.int .u32 0)) ∧ (w'.cell? ⟨bx, 0, none⟩ = some (.int .i64 v) ∧ w'.cell? ⟨bx, 1, none⟩ = some (.int .u32 n) ∧ w'.cell? ⟨bx, 2, none⟩ = some (.int .u32 r)) ∧ (w'.cell? ⟨bz, 0, none⟩ = some (.int .i64 v) ∧ w'.cell? ⟨bz, 1, none⟩ = some (.int .u32 n) ∧ w'.cell? ⟨bz, 2, none⟩ = some (.int .u32 r)))
    (first | exact ⟨i1.a.1, i1.b.1, i1.c.1, i1.x.1, i1.y.1⟩ | exact ⟨i0.a.1, i0.b.1, i0.c.1, i0.x.1, i0.y.1⟩)
    (first
      | (go_at_call 19; with_reducible refine (text_any _ _ _ _ v0 v1 n0 n1 (by omega) (by omega) i1.t).mono ?_; rintro e w5 ⟨rfl, hb5⟩; have i2 := i1.below hb5; clear hb5 i1; have i1 := i2; clear i2)
      | (go_at_call 13; with_reducible refine (awake_any _).mono ?_; rintro e w5 ⟨rfl, hb5⟩; have i2 := i1.below hb5; clear hb5 i1; have i1 := i2; clear i2))
  go_wp2
  go_ret
  have hbp := HBP.out
  subst hbp
  exact ⟨rfl, i1.g⟩

theorem text_ne0 (v n r : Int) (hr : Good r) : (textOf v n r == textOf v n 0) = false := by
  rw [beq_eq_false_iff_ne]
  intro h
  have hz : r ≠ 0 := by have := hr.1; omega
  have hl := congrArg List.length h
  by_cases hn : n = 0
  · simp [textOf, hz, hr, hn] at hl
  · simp [textOf, hz, hr, hn] at hl

theorem text_ne (v n a0 a1 b0 b1 : Int) (hf : Fits a0 a1) (hg : Fits b0 b1) (hne : ¬ (a0 = b0 ∧ a1 = b1)) : (textOf v n (a0 * 16777216 + a1) == textOf v n (b0 * 16777216 + b1)) = false := by
  rw [beq_eq_false_iff_ne]
  intro h
  obtain ⟨f1, f2, f3, f4⟩ := hf
  obtain ⟨g1, g2, g3, g4⟩ := hg
  have hz : a0 * 16777216 + a1 ≠ 0 := by omega
  have hz' : b0 * 16777216 + b1 ≠ 0 := by omega
  have ga : Good (a0 * 16777216 + a1) := by unfold Good; omega
  have gb : Good (b0 * 16777216 + b1) := by unfold Good; omega
  have q1 : (a0 * 16777216 + a1) / 16777216 = a0 := by omega
  have q2 : (a0 * 16777216 + a1) % 16777216 = a1 := by omega
  have q3 : (b0 * 16777216 + b1) / 16777216 = b0 := by omega
  have q4 : (b0 * 16777216 + b1) % 16777216 = b1 := by omega
  unfold textOf at h
  rw [if_neg hz, if_pos ga, if_neg hz', if_pos gb, q1, q2, q3, q4] at h
  have h2 := List.append_cancel_left h
  simp only [List.cons.injEq, true_and] at h2
  have h3 := List.append_cancel_left h2
  simp only [List.cons.injEq, true_and] at h3
  obtain ⟨e1, e2⟩ := two_inj h3
  exact hne (by omega)

theorem walk (a0 a1 b0 b1 v n q : Int) (wv : (Lit.int .i64 v).wf = true) (wn : (Lit.int .u32 n).wf = true) (w : World) (htab : Tab w) :
    Calls Tryd.prog 8 #[.agg #[.int .i64 a0, .int .i64 a1], .agg #[.int .i64 b0, .int .i64 b1], .agg #[.int .i64 v, .int .u32 n, .int .u32 q]] w fun e w' => e = .returned (.bool true) ∧ Below w.heap.size w w' := by
  have hv := bounds_i64 wv
  have hn := bounds_u32 wn
  by_cases hg : Fits b0 b1
  · by_cases hf : Fits a0 a1
    · have ga : Good (a0 * 16777216 + a1) := by obtain ⟨f1, f2, f3, f4⟩ := hf; unfold Good; omega
      by_cases hab : a0 = b0 ∧ a1 = b1
      · obtain ⟨rfl, rfl⟩ := hab
        exact walk_e a0 a1 v n q (by omega) (by omega) (by omega) (by omega) hf w htab (text_ne0 v n _ ga)
      · refine walk_y a0 a1 b0 b1 v n q (by omega) (by omega) (by omega) (by omega) hf hg w htab ?_ ?_ (text_ne v n a0 a1 b0 b1 hf hg hab) (text_ne0 v n _ ga)
        · by_cases h0 : a0 = b0
          · have h1 : a1 ≠ b1 := fun h1 => hab ⟨h0, h1⟩
            simp [h1]
          · simp [h0]
        · obtain ⟨f1, f2, f3, f4⟩ := hf
          obtain ⟨g1, g2, g3, g4⟩ := hg
          rw [beq_eq_false_iff_ne]; omega
    · exact walk_n1 a0 a1 b0 b1 v n q hf hg w
  · exact walk_n2 a0 a1 b0 b1 v n q hg w
end Go.Proofs.YtkomcpfcgligeaaDoor.wordDistinct
