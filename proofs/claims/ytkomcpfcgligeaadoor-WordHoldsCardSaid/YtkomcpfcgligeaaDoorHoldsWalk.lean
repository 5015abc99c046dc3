/- Statement WordHolds: Plain, Install and Release as the specification has them: the walk through the law for every input. -/
import Derived.Test.YtkomcpfcgligeaaDoorAwake
import Derived.Test.YtkomcpfcgligeaaDoorEq
import Derived.WalkKit
import Derived.WalkSpells
import Derived.WalkLawsBesides
import Derived.ProofKit
import Derived.OpenShut
import Derived.Lib.Hide
import Derived.Laws.StructEq
import Derived.Deep.RegionHeld3
import Derived.RegionTactic
import Derived.ChangeAlike
namespace Go.Proofs.YtkomcpfcgligeaaDoor
open Go.ChangeShapes Go.WideShapes Go.ChangeAt Go.RowKit

/-- The three cells of block b may be written. -/
def Free (w : World) (b : Nat) : Prop := w.frozen? ⟨b, 0, none⟩ = false ∧ w.frozen? ⟨b, 1, none⟩ = false ∧ w.frozen? ⟨b, 2, none⟩ = false

theorem HasW.drew {W : World} {b : Nat} {v n r : Int} (h : HasW W b v n r) : HasW W.drew b v n r := h
theorem HasW.set0 {W : World} {b : Nat} {v n r : Int} (h : HasW W b v n r) (x : Int) : HasW (W.setCell ⟨b, 0, none⟩ (.int .i64 x)) b x n r := by
  obtain ⟨⟨h0, h1, h2⟩, hl⟩ := h
  refine ⟨⟨?_, ?_, ?_⟩, by simpa [World.setCell] using hl⟩ <;> simp [go_sem, *]
theorem HasW.set1 {W : World} {b : Nat} {v n r : Int} (h : HasW W b v n r) (x : Int) : HasW (W.setCell ⟨b, 1, none⟩ (.int .u32 x)) b v x r := by
  obtain ⟨⟨h0, h1, h2⟩, hl⟩ := h
  refine ⟨⟨?_, ?_, ?_⟩, by simpa [World.setCell] using hl⟩ <;> simp [go_sem, *]
theorem HasW.set2 {W : World} {b : Nat} {v n r : Int} (h : HasW W b v n r) (x : Int) : HasW (W.setCell ⟨b, 2, none⟩ (.int .u32 x)) b v n x := by
  obtain ⟨⟨h0, h1, h2⟩, hl⟩ := h
  refine ⟨⟨?_, ?_, ?_⟩, by simpa [World.setCell] using hl⟩ <;> simp [go_sem, *]
theorem HasW.other {W : World} {b c o : Nat} {v n r : Int} (h : HasW W b v n r) (hne : b ≠ c) (x : Value) : HasW (W.setCell ⟨c, o, none⟩ x) b v n r := by
  obtain ⟨⟨h0, h1, h2⟩, hl⟩ := h
  refine ⟨⟨?_, ?_, ?_⟩, by simpa [World.setCell] using hl⟩ <;> simp [go_sem, *]
theorem Free.set {W : World} {b c o : Nat} (h : Free W b) (x : Value) : Free (W.setCell ⟨c, o, none⟩ x) b := by
  obtain ⟨f0, f1, f2⟩ := h
  refine ⟨?_, ?_, ?_⟩ <;> simp [go_sem, *]
theorem Free.below {W w1 : World} {b : Nat} (h : Free W b) (hl : b < W.heap.size) (hb : Below W.heap.size W w1) : Free w1 b :=
  ⟨(hb.frozen hl).trans h.1, (hb.frozen hl).trans h.2.1, (hb.frozen hl).trans h.2.2⟩
theorem Free.new (w : World) (v n r : Value) : Free (w.alloc (.cells #[v, n, r] 33)) w.heap.size := by
  refine ⟨?_, ?_, ?_⟩ <;> simp [go_sem]

namespace wordHolds

/-- The owner that a reference names, or 0. -/
def whoF (r : Int) : Int := if 1 ≤ r / 16777216 ∧ r / 16777216 ≤ 72 ∧ 1 ≤ r % 16777216 then r / 16777216 else 0
def seqF (r : Int) : Int := if 1 ≤ r / 16777216 ∧ r / 16777216 ≤ 72 ∧ 1 ≤ r % 16777216 then r % 16777216 else 0

theorem rwho_any (r : Int) (w : World) (h0 : 0 ≤ r) (h1 : r < 4294967296) :
    Calls Tryd.prog 12 #[.int .u32 r] w fun e w' => e = .returned (.tuple #[.int .i64 (whoF r), .int .i64 (seqF r)]) ∧ w = w' := by
  by_cases h : Good r
  · have e1 : whoF r = r / 16777216 := if_pos h
    have e2 : seqF r = r % 16777216 := if_pos h
    rw [e1, e2]; exact rwho_ok r w h0 h1 h
  · have e1 : whoF r = 0 := if_neg h
    have e2 : seqF r = 0 := if_neg h
    rw [e1, e2]; exact rwho_no r w h0 h1 h

/-- What holds of the law's own blocks: block bp holds the word, block bn some word that may be written; below bp the world is as it was. -/
def Kept (w : World) (bp bn : Nat) (v n q : Int) (wr : World) : Prop :=
  HasW wr bp v n q ∧ (∃ a b c, HasW wr bn a b c) ∧ Free wr bn ∧ Below bp w wr

theorem Kept.set0 {w W : World} {bp bn : Nat} {v n q : Int} (h : Kept w bp bn v n q W) (hl : bp < bn) (x : Int) : Kept w bp bn v n q (W.setCell ⟨bn, 0, none⟩ (.int .i64 x)) :=
  ⟨h.1.other (by omega) _, (let ⟨_, b, c, k⟩ := h.2.1; ⟨x, b, c, k.set0 x⟩), h.2.2.1.set _, h.2.2.2.setCell (by simp; omega) _⟩
theorem Kept.set1 {w W : World} {bp bn : Nat} {v n q : Int} (h : Kept w bp bn v n q W) (hl : bp < bn) (x : Int) : Kept w bp bn v n q (W.setCell ⟨bn, 1, none⟩ (.int .u32 x)) :=
  ⟨h.1.other (by omega) _, (let ⟨a, _, c, k⟩ := h.2.1; ⟨a, x, c, k.set1 x⟩), h.2.2.1.set _, h.2.2.2.setCell (by simp; omega) _⟩
theorem Kept.set2 {w W : World} {bp bn : Nat} {v n q : Int} (h : Kept w bp bn v n q W) (hl : bp < bn) (x : Int) : Kept w bp bn v n q (W.setCell ⟨bn, 2, none⟩ (.int .u32 x)) :=
  ⟨h.1.other (by omega) _, (let ⟨a, b, _, k⟩ := h.2.1; ⟨a, b, x, k.set2 x⟩), h.2.2.1.set _, h.2.2.2.setCell (by simp; omega) _⟩
theorem Kept.below {w W w1 : World} {bp bn : Nat} {v n q : Int} (h : Kept w bp bn v n q W) (hb : Below W.heap.size W w1) : Kept w bp bn v n q w1 :=
  ⟨h.1.below hb, (let ⟨a, b, c, k⟩ := h.2.1; ⟨a, b, c, k.below hb⟩), (let ⟨_, _, _, k⟩ := h.2.1; h.2.2.1.below k.2 hb), h.2.2.2.trans (hb.mono (Nat.le_of_lt h.1.2))⟩
theorem Kept.alloc {w W : World} {bp bn : Nat} {v n q : Int} (h : Kept w bp bn v n q W) (o : Obj) : Kept w bp bn v n q (W.alloc o) :=
  h.below ((Below.refl _ _).alloc (Nat.le_refl _) o)
theorem Kept.drew {w W : World} {bp bn : Nat} {v n q : Int} (h : Kept w bp bn v n q W) : Kept w bp bn v n q W.drew :=
  ⟨h.1, h.2.1, h.2.2.1, h.2.2.2.drew⟩

/-- What holds at the loop's head: round k begins. -/
def Head (w : World) (bp bn : Nat) (v n q : Int) (i : Value) (wr : World) : Prop :=
  ∃ k : Nat, k ≤ 2 ∧ i = .int .i64 k ∧ Kept w bp bn v n q wr

set_option maxRecDepth 100000 in
set_option maxHeartbeats 1600000 in
theorem walk_a (v n x r : Int) (h0 : 0 ≤ r) (h1 : r < 4294967296) (hg : Good r) (w : World) :
    Calls Tryd.prog 4 #[.agg #[.int .i64 v, .int .u32 n, .int .u32 0], .int .u32 r, .int .i64 x] w fun e w' => e = .returned (.bool true) ∧ Below w.heap.size w w' := by
  have G := Lib.hid hg
  have hw0 : (whoF r == 0) = false := by
    have e1 : whoF r = r / 16777216 := if_pos hg
    rw [e1, beq_eq_false_iff_ne]; have := hg.1; omega
  have gW := guardW
  have nq1 := fun w => neqW v n r v n r w
  clear hg
  go_enter Tryd.func4, Tryd.ntmps4
  go_wp2_with fail
  refine (rwho_any _ _ h0 h1).mono ?_
  rintro e w' ⟨rfl, rfl⟩
  go_wp2_with fail
  refine (install_ok _ _ _ _ h0 h1 G.out).mono ?_
  rintro e w1 ⟨rfl, hb1⟩
  have P := Lib.hid ((HasW.new w v n 0).below hb1)
  have B := Lib.hid (((Below.refl _ _).alloc (Nat.le_refl _) _).trans (hb1.mono (by simp)))
  clear hb1
  obtain ⟨⟨p0, p1, p2⟩, pl⟩ := P.out
  go_wp2_with fail
  have X2 := Lib.hid ((HasW.new w1 v n r).alloc (.cells #[.int .i64 v, .int .u32 n, .int .u32 r] 33))
  have N2 := Lib.hid (HasW.new (w1.alloc (.cells #[.int .i64 v, .int .u32 n, .int .u32 r] 33)) v n r)
  have P2 := Lib.hid ((P.out.alloc (.cells #[.int .i64 v, .int .u32 n, .int .u32 r] 33)).alloc (.cells #[.int .i64 v, .int .u32 n, .int .u32 r] 33))
  have B2 := Lib.hid (B.out.trans ((b2 w1 (.cells #[.int .i64 v, .int .u32 n, .int .u32 r] 33) (.cells #[.int .i64 v, .int .u32 n, .int .u32 r] 33)).mono B.out.size))
  have F2 := Lib.hid (Free.new (w1.alloc (.cells #[.int .i64 v, .int .u32 n, .int .u32 r] 33)) (.int .i64 v) (.int .u32 n) (.int .u32 r))
  have pn : w.heap.size < w1.heap.size + 1 := Nat.lt_succ_of_lt P.out.2
  clear p0 p1 p2 pl P B
  rw [World.size_alloc] at N2 F2
  generalize w1.heap.size = bx at *
  generalize hbp : w.heap.size = bp at *
  have HBP := Lib.hid hbp
  clear hbp
  generalize (w1.alloc (.cells #[.int .i64 v, .int .u32 n, .int .u32 r] 33)).alloc (.cells #[.int .i64 v, .int .u32 n, .int .u32 r] 33) = W2 at *
  obtain ⟨⟨p0, p1, p2⟩, pl⟩ := P2.out
  obtain ⟨⟨x0, x1, x2⟩, xl⟩ := X2.out
  obtain ⟨⟨n0, n1, n2⟩, nl⟩ := N2.out
  go_region_held3 (fun w' => (w'.cell? ⟨bp, 0, none⟩ = some (.int .i64 v) ∧ w'.cell? ⟨bp, 1, none⟩ = some (.int .u32 n) ∧ w'.cell? ⟨bp, 2, none⟩ = some (.int .u32 0)) ∧ (w'.cell? ⟨bx, 0, none⟩ = some (.int .i64 v) ∧ w'.cell? ⟨bx, 1, none⟩ = some (.int .u32 n) ∧ w'.cell? ⟨bx, 2, none⟩ = some (.int .u32 r)) ∧ (w'.cell? ⟨bx + 1, 0, none⟩ = some (.int .i64 v) ∧ w'.cell? ⟨bx + 1, 1, none⟩ = some (.int .u32 n) ∧ w'.cell? ⟨bx + 1, 2, none⟩ = some (.int .u32 r)))
    (first | exact ⟨⟨p0, p1, p2⟩, ⟨x0, x1, x2⟩, ⟨n0, n1, n2⟩⟩ | exact ⟨(P2.out.drew.below hb5).1, (X2.out.drew.below hb5).1, (N2.out.drew.below hb5).1⟩)
    (first | (go_at_call 15; refine (plain_yes _ _ _).mono ?_; rintro e w5 ⟨rfl, hb5⟩))
  have K2 : Kept w bp (bx + 1) v n 0 W2 := ⟨P2.out, ⟨_, _, _, N2.out⟩, F2.out, B2.out⟩
  have K5 := Lib.hid (K2.drew.below hb5)
  clear hb5 p0 p1 p2 pl x0 x1 x2 xl n0 n1 n2 nl P2 X2 N2 F2 B2 K2
  obtain ⟨⟨p0, p1, p2⟩, pl⟩ := K5.out.1
  go_wp2_with fail
  refine (rwho_no _ _ (by omega) (by omega) (by unfold Good; omega)).mono ?_
  rintro e w' ⟨rfl, rfl⟩
  clear p0 p1 p2 pl nq1
  go_wp2
  go_loopw [15] (fun i wr => Head w bp (bx + 1) v n 0 i wr) (fun i _ => 2 - (intOf i).toNat)
  case atStart => exact ⟨0, by omega, rfl, K5.out⟩
  case round =>
    obtain ⟨k, hk, rfl, hK⟩ := hrel
    clear K5
    have HK := Lib.hid hK
    clear hK
    obtain ⟨⟨p0, p1, p2⟩, pl⟩ := HK.out.1
    by_cases hk2 : k = 2
    · subst hk2
      go_wp2_with fail
      refine (awake_any _).mono ?_
      rintro e w7 ⟨rfl, hb7⟩
      clear p0 p1 p2
      go_wp2
      go_ret
      have hbp := HBP.out
      subst hbp
      exact ⟨rfl, (HK.out.below hb7).2.2.2⟩
    · have hk3 : (k : Int) < 2 := by omega
      go_wp2_with fail
      refine (release_plain _ _ _ _ _).mono ?_
      rintro e w6 ⟨rfl, hb6⟩
      have K6 := Lib.hid (HK.out.below hb6)
      clear hb6 p0 p1 p2 pl HK
      have nq1 := fun w => neqW v n 0 v n 0 w
      obtain ⟨⟨p0, p1, p2⟩, pl⟩ := K6.out.1
      obtain ⟨a, b, c, ⟨n0, n1, n2⟩, nl⟩ := K6.out.2.1
      obtain ⟨f0, f1, f2⟩ := K6.out.2.2.1
      go_wp2
      exact ⟨⟨k + 1, by omega, by go_num, (((K6.out.set0 pn _).set1 pn _).set2 pn _).alloc _⟩, by simp [intOf]; omega⟩

set_option maxRecDepth 100000 in
set_option maxHeartbeats 1600000 in
theorem walk_b (v n x r : Int) (h0 : 0 ≤ r) (h1 : r < 4294967296) (hg : ¬ Good r) (w : World) :
    Calls Tryd.prog 4 #[.agg #[.int .i64 v, .int .u32 n, .int .u32 0], .int .u32 r, .int .i64 x] w fun e w' => e = .returned (.bool true) ∧ Below w.heap.size w w' := by
  have G := Lib.hid hg
  have hw0 : (whoF r == 0) = true := by
    have e1 : whoF r = 0 := if_neg hg
    rw [e1]; rfl
  have gW := guardW
  have nq1 := fun w => neqW v n 0 v n 0 w
  clear hg
  go_enter Tryd.func4, Tryd.ntmps4
  go_wp2_with fail
  refine (rwho_any _ _ h0 h1).mono ?_
  rintro e w' ⟨rfl, rfl⟩
  go_wp2_with fail
  refine (install_range _ _ _ _ h0 h1 G.out).mono ?_
  rintro e w1 ⟨rfl, hb1⟩
  have P := Lib.hid ((HasW.new w v n 0).below hb1)
  have B := Lib.hid (((Below.refl _ _).alloc (Nat.le_refl _) _).trans (hb1.mono (by simp)))
  clear hb1
  obtain ⟨⟨p0, p1, p2⟩, pl⟩ := P.out
  go_wp2_with fail
  have X2 := Lib.hid ((HasW.new w1 v n 0).alloc (.cells #[.int .i64 v, .int .u32 n, .int .u32 0] 33))
  have N2 := Lib.hid (HasW.new (w1.alloc (.cells #[.int .i64 v, .int .u32 n, .int .u32 0] 33)) v n 0)
  have P2 := Lib.hid ((P.out.alloc (.cells #[.int .i64 v, .int .u32 n, .int .u32 0] 33)).alloc (.cells #[.int .i64 v, .int .u32 n, .int .u32 0] 33))
  have B2 := Lib.hid (B.out.trans ((b2 w1 (.cells #[.int .i64 v, .int .u32 n, .int .u32 0] 33) (.cells #[.int .i64 v, .int .u32 n, .int .u32 0] 33)).mono B.out.size))
  have F2 := Lib.hid (Free.new (w1.alloc (.cells #[.int .i64 v, .int .u32 n, .int .u32 0] 33)) (.int .i64 v) (.int .u32 n) (.int .u32 0))
  have pn : w.heap.size < w1.heap.size + 1 := Nat.lt_succ_of_lt P.out.2
  clear p0 p1 p2 pl P B
  rw [World.size_alloc] at N2 F2
  generalize w1.heap.size = bx at *
  generalize hbp : w.heap.size = bp at *
  have HBP := Lib.hid hbp
  clear hbp
  generalize (w1.alloc (.cells #[.int .i64 v, .int .u32 n, .int .u32 0] 33)).alloc (.cells #[.int .i64 v, .int .u32 n, .int .u32 0] 33) = W2 at *
  obtain ⟨⟨p0, p1, p2⟩, pl⟩ := P2.out
  obtain ⟨⟨x0, x1, x2⟩, xl⟩ := X2.out
  obtain ⟨⟨n0, n1, n2⟩, nl⟩ := N2.out
  go_region_held3 (fun w' => (w'.cell? ⟨bp, 0, none⟩ = some (.int .i64 v) ∧ w'.cell? ⟨bp, 1, none⟩ = some (.int .u32 n) ∧ w'.cell? ⟨bp, 2, none⟩ = some (.int .u32 0)) ∧ (w'.cell? ⟨bx, 0, none⟩ = some (.int .i64 v) ∧ w'.cell? ⟨bx, 1, none⟩ = some (.int .u32 n) ∧ w'.cell? ⟨bx, 2, none⟩ = some (.int .u32 0)) ∧ (w'.cell? ⟨bx + 1, 0, none⟩ = some (.int .i64 v) ∧ w'.cell? ⟨bx + 1, 1, none⟩ = some (.int .u32 n) ∧ w'.cell? ⟨bx + 1, 2, none⟩ = some (.int .u32 0)))
    (first | exact ⟨⟨p0, p1, p2⟩, ⟨x0, x1, x2⟩, ⟨n0, n1, n2⟩⟩ | exact ⟨(P2.out.drew.below hb5).1, (X2.out.drew.below hb5).1, (N2.out.drew.below hb5).1⟩)
    (first | (go_at_call 15; refine (plain_yes _ _ _).mono ?_; rintro e w5 ⟨rfl, hb5⟩))
  have K2 : Kept w bp (bx + 1) v n 0 W2 := ⟨P2.out, ⟨_, _, _, N2.out⟩, F2.out, B2.out⟩
  have K5 := Lib.hid (K2.drew.below hb5)
  clear hb5 p0 p1 p2 pl x0 x1 x2 xl n0 n1 n2 nl P2 X2 N2 F2 B2 K2
  obtain ⟨⟨p0, p1, p2⟩, pl⟩ := K5.out.1
  go_wp2_with fail
  refine (rwho_no _ _ (by omega) (by omega) (by unfold Good; omega)).mono ?_
  rintro e w' ⟨rfl, rfl⟩
  clear p0 p1 p2 pl nq1
  go_wp2
  go_loopw [15] (fun i wr => Head w bp (bx + 1) v n 0 i wr) (fun i _ => 2 - (intOf i).toNat)
  case atStart => exact ⟨0, by omega, rfl, K5.out⟩
  case round =>
    obtain ⟨k, hk, rfl, hK⟩ := hrel
    clear K5
    have HK := Lib.hid hK
    clear hK
    obtain ⟨⟨p0, p1, p2⟩, pl⟩ := HK.out.1
    by_cases hk2 : k = 2
    · subst hk2
      go_wp2_with fail
      refine (awake_any _).mono ?_
      rintro e w7 ⟨rfl, hb7⟩
      clear p0 p1 p2
      go_wp2
      go_ret
      have hbp := HBP.out
      subst hbp
      exact ⟨rfl, (HK.out.below hb7).2.2.2⟩
    · have hk3 : (k : Int) < 2 := by omega
      go_wp2_with fail
      refine (release_plain _ _ _ _ _).mono ?_
      rintro e w6 ⟨rfl, hb6⟩
      have K6 := Lib.hid (HK.out.below hb6)
      clear hb6 p0 p1 p2 pl HK
      have nq1 := fun w => neqW v n 0 v n 0 w
      obtain ⟨⟨p0, p1, p2⟩, pl⟩ := K6.out.1
      obtain ⟨a, b, c, ⟨n0, n1, n2⟩, nl⟩ := K6.out.2.1
      obtain ⟨f0, f1, f2⟩ := K6.out.2.2.1
      go_wp2
      exact ⟨⟨k + 1, by omega, by go_num, (((K6.out.set0 pn _).set1 pn _).set2 pn _).alloc _⟩, by simp [intOf]; omega⟩

set_option maxRecDepth 100000 in
set_option maxHeartbeats 1600000 in
theorem walk_d (v n q x r : Int) (h0 : 0 ≤ r) (h1 : r < 4294967296) (q0 : 0 ≤ q) (q1 : q < 4294967296) (hz : q ≠ 0) (hg : ¬ Good q) (w : World) :
    Calls Tryd.prog 4 #[.agg #[.int .i64 v, .int .u32 n, .int .u32 q], .int .u32 r, .int .i64 x] w fun e w' => e = .returned (.bool true) ∧ Below w.heap.size w w' := by
  have G := Lib.hid hg
  have Z := Lib.hid hz
  have hq0 : (q != 0) = true := by rw [bne_iff_ne]; exact hz
  have hq1 : (q == 0) = false := by rw [beq_eq_false_iff_ne]; exact hz
  clear hz
  have gW := guardW
  have nq1 := fun w => neqW v n q v n q w
  clear hg
  go_enter Tryd.func4, Tryd.ntmps4
  go_wp2_with fail
  refine (rwho_any _ _ h0 h1).mono ?_
  rintro e w' ⟨rfl, rfl⟩
  go_wp2_with fail
  refine (install_bad _ _ _ _ _ q0 q1 Z.out G.out).mono ?_
  rintro e w1 ⟨rfl, hb1⟩
  have P := Lib.hid ((HasW.new w v n q).below hb1)
  have B := Lib.hid (((Below.refl _ _).alloc (Nat.le_refl _) _).trans (hb1.mono (by simp)))
  clear hb1
  obtain ⟨⟨p0, p1, p2⟩, pl⟩ := P.out
  go_wp2_with fail
  have X2 := Lib.hid ((HasW.new w1 v n q).alloc (.cells #[.int .i64 v, .int .u32 n, .int .u32 q] 33))
  have N2 := Lib.hid (HasW.new (w1.alloc (.cells #[.int .i64 v, .int .u32 n, .int .u32 q] 33)) v n q)
  have P2 := Lib.hid ((P.out.alloc (.cells #[.int .i64 v, .int .u32 n, .int .u32 q] 33)).alloc (.cells #[.int .i64 v, .int .u32 n, .int .u32 q] 33))
  have B2 := Lib.hid (B.out.trans ((b2 w1 (.cells #[.int .i64 v, .int .u32 n, .int .u32 q] 33) (.cells #[.int .i64 v, .int .u32 n, .int .u32 q] 33)).mono B.out.size))
  have F2 := Lib.hid (Free.new (w1.alloc (.cells #[.int .i64 v, .int .u32 n, .int .u32 q] 33)) (.int .i64 v) (.int .u32 n) (.int .u32 q))
  have pn : w.heap.size < w1.heap.size + 1 := Nat.lt_succ_of_lt P.out.2
  clear p0 p1 p2 pl P B
  rw [World.size_alloc] at N2 F2
  generalize w1.heap.size = bx at *
  generalize hbp : w.heap.size = bp at *
  have HBP := Lib.hid hbp
  clear hbp
  generalize (w1.alloc (.cells #[.int .i64 v, .int .u32 n, .int .u32 q] 33)).alloc (.cells #[.int .i64 v, .int .u32 n, .int .u32 q] 33) = W2 at *
  obtain ⟨⟨p0, p1, p2⟩, pl⟩ := P2.out
  obtain ⟨⟨x0, x1, x2⟩, xl⟩ := X2.out
  obtain ⟨⟨n0, n1, n2⟩, nl⟩ := N2.out
  go_region_held3 (fun w' => (w'.cell? ⟨bp, 0, none⟩ = some (.int .i64 v) ∧ w'.cell? ⟨bp, 1, none⟩ = some (.int .u32 n) ∧ w'.cell? ⟨bp, 2, none⟩ = some (.int .u32 q)) ∧ (w'.cell? ⟨bx, 0, none⟩ = some (.int .i64 v) ∧ w'.cell? ⟨bx, 1, none⟩ = some (.int .u32 n) ∧ w'.cell? ⟨bx, 2, none⟩ = some (.int .u32 q)) ∧ (w'.cell? ⟨bx + 1, 0, none⟩ = some (.int .i64 v) ∧ w'.cell? ⟨bx + 1, 1, none⟩ = some (.int .u32 n) ∧ w'.cell? ⟨bx + 1, 2, none⟩ = some (.int .u32 q)))
    (first | exact ⟨⟨p0, p1, p2⟩, ⟨x0, x1, x2⟩, ⟨n0, n1, n2⟩⟩ | exact ⟨(P2.out.drew.below hb5).1, (X2.out.drew.below hb5).1, (N2.out.drew.below hb5).1⟩)
    (first | (go_at_call 15; refine (plain_bad _ _ _ _ q0 q1 Z.out G.out).mono ?_; rintro e w5 ⟨rfl, hb5⟩))
  have K2 : Kept w bp (bx + 1) v n q W2 := ⟨P2.out, ⟨_, _, _, N2.out⟩, F2.out, B2.out⟩
  have K5 := Lib.hid (K2.drew.below hb5)
  clear hb5 p0 p1 p2 pl x0 x1 x2 xl n0 n1 n2 nl P2 X2 N2 F2 B2 K2
  obtain ⟨⟨p0, p1, p2⟩, pl⟩ := K5.out.1
  go_wp2_with fail
  refine (rwho_no _ _ q0 q1 G.out).mono ?_
  rintro e w' ⟨rfl, rfl⟩
  clear p0 p1 p2 pl nq1
  go_wp2
  go_loopw [15] (fun i wr => Head w bp (bx + 1) v n q i wr) (fun i _ => 2 - (intOf i).toNat)
  case atStart => exact ⟨0, by omega, rfl, K5.out⟩
  case round =>
    obtain ⟨k, hk, rfl, hK⟩ := hrel
    clear K5
    have HK := Lib.hid hK
    clear hK
    obtain ⟨⟨p0, p1, p2⟩, pl⟩ := HK.out.1
    by_cases hk2 : k = 2
    · subst hk2
      go_wp2_with fail
      refine (awake_any _).mono ?_
      rintro e w7 ⟨rfl, hb7⟩
      clear p0 p1 p2
      go_wp2
      go_ret
      have hbp := HBP.out
      subst hbp
      exact ⟨rfl, (HK.out.below hb7).2.2.2⟩
    · have hk3 : (k : Int) < 2 := by omega
      go_wp2_with fail
      refine (release_bad _ _ _ _ _ _ q0 q1 Z.out G.out).mono ?_
      rintro e w6 ⟨rfl, hb6⟩
      have K6 := Lib.hid (HK.out.below hb6)
      clear hb6 p0 p1 p2 pl HK
      have nq1 := fun w => neqW v n q v n q w
      obtain ⟨⟨p0, p1, p2⟩, pl⟩ := K6.out.1
      obtain ⟨a, b, c, ⟨n0, n1, n2⟩, nl⟩ := K6.out.2.1
      obtain ⟨f0, f1, f2⟩ := K6.out.2.2.1
      go_wp2
      exact ⟨⟨k + 1, by omega, by go_num, (((K6.out.set0 pn _).set1 pn _).set2 pn _).alloc _⟩, by simp [intOf]; omega⟩

set_option maxRecDepth 100000 in
set_option maxHeartbeats 1600000 in
theorem walk_full (v q x r : Int) (h0 : 0 ≤ r) (h1 : r < 4294967296) (q0 : 0 ≤ q) (q1 : q < 4294967296) (hg : Good q) (w : World) :
    Calls Tryd.prog 4 #[.agg #[.int .i64 v, .int .u32 4294967295, .int .u32 q], .int .u32 r, .int .i64 x] w fun e w' => e = .returned (.bool true) ∧ Below w.heap.size w w' := by
  have G := Lib.hid hg
  have hq0 : (q != 0) = true := by rw [bne_iff_ne]; have := hg.1; omega
  have hq1 : (q == 0) = false := by rw [beq_eq_false_iff_ne]; have := hg.1; omega
  have hq2 : (q / 16777216 == 0) = false := by rw [beq_eq_false_iff_ne]; have := hg.1; omega
  have gW := guardW
  have nq1 := fun w => neqW v 4294967295 q v 4294967295 q w
  clear hg
  go_enter Tryd.func4, Tryd.ntmps4
  go_wp2_with fail
  refine (rwho_any _ _ h0 h1).mono ?_
  rintro e w' ⟨rfl, rfl⟩
  go_wp2_with fail
  refine (install_held _ _ _ _ _ q0 q1 G.out).mono ?_
  rintro e w1 ⟨rfl, hb1⟩
  have P := Lib.hid ((HasW.new w v 4294967295 q).below hb1)
  have B := Lib.hid (((Below.refl _ _).alloc (Nat.le_refl _) _).trans (hb1.mono (by simp)))
  clear hb1
  obtain ⟨⟨p0, p1, p2⟩, pl⟩ := P.out
  go_wp2_with fail
  have X2 := Lib.hid ((HasW.new w1 v 4294967295 q).alloc (.cells #[.int .i64 v, .int .u32 4294967295, .int .u32 q] 33))
  have N2 := Lib.hid (HasW.new (w1.alloc (.cells #[.int .i64 v, .int .u32 4294967295, .int .u32 q] 33)) v 4294967295 q)
  have P2 := Lib.hid ((P.out.alloc (.cells #[.int .i64 v, .int .u32 4294967295, .int .u32 q] 33)).alloc (.cells #[.int .i64 v, .int .u32 4294967295, .int .u32 q] 33))
  have B2 := Lib.hid (B.out.trans ((b2 w1 (.cells #[.int .i64 v, .int .u32 4294967295, .int .u32 q] 33) (.cells #[.int .i64 v, .int .u32 4294967295, .int .u32 q] 33)).mono B.out.size))
  have F2 := Lib.hid (Free.new (w1.alloc (.cells #[.int .i64 v, .int .u32 4294967295, .int .u32 q] 33)) (.int .i64 v) (.int .u32 4294967295) (.int .u32 q))
  have pn : w.heap.size < w1.heap.size + 1 := Nat.lt_succ_of_lt P.out.2
  clear p0 p1 p2 pl P B
  rw [World.size_alloc] at N2 F2
  generalize w1.heap.size = bx at *
  generalize hbp : w.heap.size = bp at *
  have HBP := Lib.hid hbp
  clear hbp
  generalize (w1.alloc (.cells #[.int .i64 v, .int .u32 4294967295, .int .u32 q] 33)).alloc (.cells #[.int .i64 v, .int .u32 4294967295, .int .u32 q] 33) = W2 at *
  obtain ⟨⟨p0, p1, p2⟩, pl⟩ := P2.out
  obtain ⟨⟨x0, x1, x2⟩, xl⟩ := X2.out
  obtain ⟨⟨n0, n1, n2⟩, nl⟩ := N2.out
  go_region_held3 (fun w' => (w'.cell? ⟨bp, 0, none⟩ = some (.int .i64 v) ∧ w'.cell? ⟨bp, 1, none⟩ = some (.int .u32 4294967295) ∧ w'.cell? ⟨bp, 2, none⟩ = some (.int .u32 q)) ∧ (w'.cell? ⟨bx, 0, none⟩ = some (.int .i64 v) ∧ w'.cell? ⟨bx, 1, none⟩ = some (.int .u32 4294967295) ∧ w'.cell? ⟨bx, 2, none⟩ = some (.int .u32 q)) ∧ (w'.cell? ⟨bx + 1, 0, none⟩ = some (.int .i64 v) ∧ w'.cell? ⟨bx + 1, 1, none⟩ = some (.int .u32 4294967295) ∧ w'.cell? ⟨bx + 1, 2, none⟩ = some (.int .u32 q)))
    (first | exact ⟨⟨p0, p1, p2⟩, ⟨x0, x1, x2⟩, ⟨n0, n1, n2⟩⟩ | exact ⟨(P2.out.drew.below hb5).1, (X2.out.drew.below hb5).1, (N2.out.drew.below hb5).1⟩)
    (first | (go_at_call 15; refine (plain_held _ _ _ _ q0 q1 G.out).mono ?_; rintro e w5 ⟨rfl, hb5⟩))
  have K2 : Kept w bp (bx + 1) v 4294967295 q W2 := ⟨P2.out, ⟨_, _, _, N2.out⟩, F2.out, B2.out⟩
  have K5 := Lib.hid (K2.drew.below hb5)
  clear hb5 p0 p1 p2 pl x0 x1 x2 xl n0 n1 n2 nl P2 X2 N2 F2 B2 K2
  obtain ⟨⟨p0, p1, p2⟩, pl⟩ := K5.out.1
  go_wp2_with fail
  refine (rwho_ok _ _ q0 q1 G.out).mono ?_
  rintro e w' ⟨rfl, rfl⟩
  clear p0 p1 p2 pl nq1
  go_wp2
  go_loopw [15] (fun i wr => Head w bp (bx + 1) v 4294967295 q i wr) (fun i _ => 2 - (intOf i).toNat)
  case atStart => exact ⟨0, by omega, rfl, K5.out⟩
  case round =>
    obtain ⟨k, hk, rfl, hK⟩ := hrel
    clear K5
    have HK := Lib.hid hK
    clear hK
    obtain ⟨⟨p0, p1, p2⟩, pl⟩ := HK.out.1
    by_cases hk2 : k = 2
    · subst hk2
      go_wp2_with fail
      refine (awake_any _).mono ?_
      rintro e w7 ⟨rfl, hb7⟩
      clear p0 p1 p2
      go_wp2
      go_ret
      have hbp := HBP.out
      subst hbp
      exact ⟨rfl, (HK.out.below hb7).2.2.2⟩
    by_cases hk0 : k = 0
    · subst hk0
      go_wp2_with fail
      refine (release_keep _ _ _ _ _ q0 q1 G.out).mono ?_
      rintro e w6 ⟨rfl, hb6⟩
      have K6 := Lib.hid (HK.out.below hb6)
      clear hb6 p0 p1 p2 pl HK
      have nq1 := fun w => neqW v 4294967295 0 v 4294967295 0 w
      obtain ⟨⟨p0, p1, p2⟩, pl⟩ := K6.out.1
      obtain ⟨a, b, c, ⟨n0, n1, n2⟩, nl⟩ := K6.out.2.1
      obtain ⟨f0, f1, f2⟩ := K6.out.2.2.1
      have d2 := ((((((show HasW w6 (bx + 1) a b c from ⟨⟨n0, n1, n2⟩, nl⟩).set0 v).set1 4294967295).set2 q).set2 0)).1.2.2
      go_wp2
      exact ⟨⟨1, by omega, rfl, ((((K6.out.set0 pn _).set1 pn _).set2 pn _).set2 pn _).alloc _⟩, by simp [intOf]⟩
    · obtain rfl : k = 1 := by omega
      go_wp2_with fail
      refine (release_full _ _ _ _ q0 q1 G.out).mono ?_
      rintro e w6 ⟨rfl, hb6⟩
      have K6 := Lib.hid (HK.out.below hb6)
      clear hb6 p0 p1 p2 pl HK
      have nq1 := fun w => neqW v 4294967295 q v 4294967295 q w
      obtain ⟨⟨p0, p1, p2⟩, pl⟩ := K6.out.1
      obtain ⟨a, b, c, ⟨n0, n1, n2⟩, nl⟩ := K6.out.2.1
      obtain ⟨f0, f1, f2⟩ := K6.out.2.2.1
      go_wp2
      exact ⟨⟨2, by omega, rfl, (((K6.out.set0 pn _).set1 pn _).set2 pn _).alloc _⟩, by simp [intOf]⟩

set_option maxRecDepth 100000 in
set_option maxHeartbeats 1600000 in
theorem walk_ok (v n q x r : Int) (hn : 0 ≤ n) (hn2 : n < 4294967295) (h0 : 0 ≤ r) (h1 : r < 4294967296) (q0 : 0 ≤ q) (q1 : q < 4294967296) (hg : Good q) (w : World) :
    Calls Tryd.prog 4 #[.agg #[.int .i64 v, .int .u32 n, .int .u32 q], .int .u32 r, .int .i64 x] w fun e w' => e = .returned (.bool true) ∧ Below w.heap.size w w' := by
  have G := Lib.hid hg
  have hq0 : (q != 0) = true := by rw [bne_iff_ne]; have := hg.1; omega
  have hq1 : (q == 0) = false := by rw [beq_eq_false_iff_ne]; have := hg.1; omega
  have hq2 : (q / 16777216 == 0) = false := by rw [beq_eq_false_iff_ne]; have := hg.1; omega
  have hne : (n == 4294967295) = false := by rw [beq_eq_false_iff_ne]; omega
  have gW := guardW
  have nq1 := fun w => neqW v n q v n q w
  clear hg
  go_enter Tryd.func4, Tryd.ntmps4
  go_wp2_with fail
  refine (rwho_any _ _ h0 h1).mono ?_
  rintro e w' ⟨rfl, rfl⟩
  go_wp2_with fail
  refine (install_held _ _ _ _ _ q0 q1 G.out).mono ?_
  rintro e w1 ⟨rfl, hb1⟩
  have P := Lib.hid ((HasW.new w v n q).below hb1)
  have B := Lib.hid (((Below.refl _ _).alloc (Nat.le_refl _) _).trans (hb1.mono (by simp)))
  clear hb1
  obtain ⟨⟨p0, p1, p2⟩, pl⟩ := P.out
  go_wp2_with fail
  have X2 := Lib.hid ((HasW.new w1 v n q).alloc (.cells #[.int .i64 v, .int .u32 n, .int .u32 q] 33))
  have N2 := Lib.hid (HasW.new (w1.alloc (.cells #[.int .i64 v, .int .u32 n, .int .u32 q] 33)) v n q)
  have P2 := Lib.hid ((P.out.alloc (.cells #[.int .i64 v, .int .u32 n, .int .u32 q] 33)).alloc (.cells #[.int .i64 v, .int .u32 n, .int .u32 q] 33))
  have B2 := Lib.hid (B.out.trans ((b2 w1 (.cells #[.int .i64 v, .int .u32 n, .int .u32 q] 33) (.cells #[.int .i64 v, .int .u32 n, .int .u32 q] 33)).mono B.out.size))
  have F2 := Lib.hid (Free.new (w1.alloc (.cells #[.int .i64 v, .int .u32 n, .int .u32 q] 33)) (.int .i64 v) (.int .u32 n) (.int .u32 q))
  have pn : w.heap.size < w1.heap.size + 1 := Nat.lt_succ_of_lt P.out.2
  clear p0 p1 p2 pl P B
  rw [World.size_alloc] at N2 F2
  generalize w1.heap.size = bx at *
  generalize hbp : w.heap.size = bp at *
  have HBP := Lib.hid hbp
  clear hbp
  generalize (w1.alloc (.cells #[.int .i64 v, .int .u32 n, .int .u32 q] 33)).alloc (.cells #[.int .i64 v, .int .u32 n, .int .u32 q] 33) = W2 at *
  obtain ⟨⟨p0, p1, p2⟩, pl⟩ := P2.out
  obtain ⟨⟨x0, x1, x2⟩, xl⟩ := X2.out
  obtain ⟨⟨n0, n1, n2⟩, nl⟩ := N2.out
  go_region_held3 (fun w' => (w'.cell? ⟨bp, 0, none⟩ = some (.int .i64 v) ∧ w'.cell? ⟨bp, 1, none⟩ = some (.int .u32 n) ∧ w'.cell? ⟨bp, 2, none⟩ = some (.int .u32 q)) ∧ (w'.cell? ⟨bx, 0, none⟩ = some (.int .i64 v) ∧ w'.cell? ⟨bx, 1, none⟩ = some (.int .u32 n) ∧ w'.cell? ⟨bx, 2, none⟩ = some (.int .u32 q)) ∧ (w'.cell? ⟨bx + 1, 0, none⟩ = some (.int .i64 v) ∧ w'.cell? ⟨bx + 1, 1, none⟩ = some (.int .u32 n) ∧ w'.cell? ⟨bx + 1, 2, none⟩ = some (.int .u32 q)))
    (first | exact ⟨⟨p0, p1, p2⟩, ⟨x0, x1, x2⟩, ⟨n0, n1, n2⟩⟩ | exact ⟨(P2.out.drew.below hb5).1, (X2.out.drew.below hb5).1, (N2.out.drew.below hb5).1⟩)
    (first | (go_at_call 15; refine (plain_held _ _ _ _ q0 q1 G.out).mono ?_; rintro e w5 ⟨rfl, hb5⟩))
  have K2 : Kept w bp (bx + 1) v n q W2 := ⟨P2.out, ⟨_, _, _, N2.out⟩, F2.out, B2.out⟩
  have K5 := Lib.hid (K2.drew.below hb5)
  clear hb5 p0 p1 p2 pl x0 x1 x2 xl n0 n1 n2 nl P2 X2 N2 F2 B2 K2
  obtain ⟨⟨p0, p1, p2⟩, pl⟩ := K5.out.1
  go_wp2_with fail
  refine (rwho_ok _ _ q0 q1 G.out).mono ?_
  rintro e w' ⟨rfl, rfl⟩
  clear p0 p1 p2 pl nq1
  go_wp2
  go_loopw [15] (fun i wr => Head w bp (bx + 1) v n q i wr) (fun i _ => 2 - (intOf i).toNat)
  case atStart => exact ⟨0, by omega, rfl, K5.out⟩
  case round =>
    obtain ⟨k, hk, rfl, hK⟩ := hrel
    clear K5
    have HK := Lib.hid hK
    clear hK
    obtain ⟨⟨p0, p1, p2⟩, pl⟩ := HK.out.1
    by_cases hk2 : k = 2
    · subst hk2
      go_wp2_with fail
      refine (awake_any _).mono ?_
      rintro e w7 ⟨rfl, hb7⟩
      clear p0 p1 p2
      go_wp2
      go_ret
      have hbp := HBP.out
      subst hbp
      exact ⟨rfl, (HK.out.below hb7).2.2.2⟩
    by_cases hk0 : k = 0
    · subst hk0
      go_wp2_with fail
      refine (release_keep _ _ _ _ _ q0 q1 G.out).mono ?_
      rintro e w6 ⟨rfl, hb6⟩
      have K6 := Lib.hid (HK.out.below hb6)
      clear hb6 p0 p1 p2 pl HK
      have nq1 := fun w => neqW v n 0 v n 0 w
      obtain ⟨⟨p0, p1, p2⟩, pl⟩ := K6.out.1
      obtain ⟨a, b, c, ⟨n0, n1, n2⟩, nl⟩ := K6.out.2.1
      obtain ⟨f0, f1, f2⟩ := K6.out.2.2.1
      have d2 := ((((((show HasW w6 (bx + 1) a b c from ⟨⟨n0, n1, n2⟩, nl⟩).set0 v).set1 n).set2 q).set2 0)).1.2.2
      go_wp2
      exact ⟨⟨1, by omega, rfl, ((((K6.out.set0 pn _).set1 pn _).set2 pn _).set2 pn _).alloc _⟩, by simp [intOf]⟩
    · obtain rfl : k = 1 := by omega
      go_wp2_with fail
      refine (release_ok _ _ _ _ _ hn hn2 q0 q1 G.out).mono ?_
      rintro e w6 ⟨rfl, hb6⟩
      have K6 := Lib.hid (HK.out.below hb6)
      clear hb6 p0 p1 p2 pl HK
      have nq1 := fun w => neqW x (n + 1) 0 x (n + 1) 0 w
      obtain ⟨⟨p0, p1, p2⟩, pl⟩ := K6.out.1
      obtain ⟨a, b, c, ⟨n0, n1, n2⟩, nl⟩ := K6.out.2.1
      obtain ⟨f0, f1, f2⟩ := K6.out.2.2.1
      go_wp2
      go_region
      have K7 := Lib.hid (((((((K6.out.set0 pn v).set1 pn n).set2 pn q).set2 pn 0).set0 pn x).set1 pn (n + 1)).alloc (.cells #[.int .i64 x, .int .u32 (n + 1), .int .u32 0] 33)).drew
      have N7 := Lib.hid ((((((((show HasW w6 (bx + 1) a b c from ⟨⟨n0, n1, n2⟩, nl⟩).set0 v).set1 n).set2 q).set2 0).set0 x).set1 (n + 1)).alloc (.cells #[.int .i64 x, .int .u32 (n + 1), .int .u32 0] 33)).drew
      have Y7 := Lib.hid (HasW.new ((((((w6.setCell ⟨bx + 1, 0, none⟩ (.int .i64 v)).setCell ⟨bx + 1, 1, none⟩ (.int .u32 n)).setCell ⟨bx + 1, 2, none⟩ (.int .u32 q)).setCell ⟨bx + 1, 2, none⟩ (.int .u32 0)).setCell ⟨bx + 1, 0, none⟩ (.int .i64 x)).setCell ⟨bx + 1, 1, none⟩ (.int .u32 (n + 1))) x (n + 1) 0).drew
      simp only [World.size_setCell] at Y7
      clear p0 p1 p2 pl n0 n1 n2 nl f0 f1 f2 K6
      generalize ((((((((w6.setCell ⟨bx + 1, 0, none⟩ (.int .i64 v)).setCell ⟨bx + 1, 1, none⟩ (.int .u32 n)).setCell ⟨bx + 1, 2, none⟩ (.int .u32 q)).setCell ⟨bx + 1, 2, none⟩ (.int .u32 0)).setCell ⟨bx + 1, 0, none⟩ (.int .i64 x)).setCell ⟨bx + 1, 1, none⟩ (.int .u32 (n + 1))).alloc (.cells #[.int .i64 x, .int .u32 (n + 1), .int .u32 0] 33)).drew) = W7 at *
      obtain ⟨⟨n0, n1, n2⟩, nl⟩ := N7.out
      obtain ⟨⟨y0, y1, y2⟩, yl⟩ := Y7.out
      go_wp2
      exact ⟨⟨2, by omega, rfl, K7.out⟩, by simp [intOf]⟩

theorem walk (v n q r x : Int) (wn : (Lit.int .u32 n).wf = true) (wq : (Lit.int .u32 q).wf = true) (wr : (Lit.int .u32 r).wf = true) (w : World) :
    Calls Tryd.prog 4 #[.agg #[.int .i64 v, .int .u32 n, .int .u32 q], .int .u32 r, .int .i64 x] w fun e w' => e = .returned (.bool true) ∧ Below w.heap.size w w' := by
  have hn := bounds_u32 wn
  have hq := bounds_u32 wq
  have hr := bounds_u32 wr
  by_cases hz : q = 0
  · subst hz
    by_cases hg : Good r
    · exact walk_a v n x r (by omega) (by omega) hg w
    · exact walk_b v n x r (by omega) (by omega) hg w
  · by_cases hg : Good q
    · by_cases h : n = 4294967295
      · subst h
        exact walk_full v q x r (by omega) (by omega) (by omega) (by omega) hg w
      · exact walk_ok v n q x r (by omega) (by omega) (by omega) (by omega) (by omega) (by omega) hg w
    · exact walk_d v n q x r (by omega) (by omega) (by omega) (by omega) hz hg w
end wordHolds
end Go.Proofs.YtkomcpfcgligeaaDoor
