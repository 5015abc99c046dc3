/- Texts that grow: rows of bytes of one's own; the table of powers of ten; strconv.AppendInt. -/
import Derived.Test.YtpgcnejofnhhfaaDoorSplit
import Derived.Lib.AppendStr
import Derived.Lib.OthersKept
namespace Go.Proofs.YtpgcnejofnhhfaaDoor
open Go.ChangeShapes Go.WideShapes Go.ChangeAt Go.RowKit Go.Shelf Go.Maps

/-- The slice v of bytes reads as l, and is nobody else's to write. -/
def BRow (B : Nat) (w : World) (v : Value) (l : List UInt8) : Prop := w.ownsRow B 5 1 v l.length (Lib.byteCells l)
theorem BRow.below {B : Nat} {w w1 : World} {v : Value} {m : List UInt8} (h : BRow B w v m) (hb : Below w.heap.size w w1) : BRow B w1 v m := row_below h hb
theorem BRow.nil (B : Nat) (w : World) : BRow B w (.slice none 0 0) [] := World.ownsRow_nil w B 5 1
theorem cells_app (a b : List UInt8) : Lib.byteCells a ++ Lib.byteCells b = Lib.byteCells (a ++ b) := by simp [Lib.byteCells]
def Tab (w : World) : Prop := Lib.TabIs Tryd.prog w "internal/strconv.uint64pow10" .u64 Lib.pow10Tab
theorem gPow : Tryd.prog.globalNamed "internal/strconv.uint64pow10" = some 4 := by kernel_rfl
theorem Tab.below {w w1 : World} {B : Nat} (h : Tab w) (hb : Below B w w1) (hB : 4 < B) : Tab w1 := by
  unfold Tab Lib.TabIs World.var? at *
  rw [gPow, Option.bind_some] at *
  rw [hb.block 4 hB]
  exact h
theorem info5 : (Tryd.prog.info? 5).map (fun i => (i.zero, i.size, i.bytes)) = some (some (.int .u8 0), 1, 1) := by kernel_rfl
theorem box_apart {w : World} {B b : Nat} {cs : Array Value} {v : Value} {n : Nat} {xs : List Value} (h : Box w b cs 35) (g : w.ownsRow B 5 1 v n xs) : v.ownBlock ≠ some b := by
  intro hv
  obtain ⟨-, ⟨h2, -⟩ | ⟨g2, c2, cur2, hv2, -, hh2, -⟩⟩ := g
  · subst h2; cases hv
  subst hv2
  simp only [Value.ownBlock, Option.some.injEq] at hv
  subst hv
  rw [show w.heap[g2]? = _ from h] at hh2
  simp at hh2
theorem Box.grown {w w1 : World} {b : Nat} {cs : Array Value} {row : Option Nat} (h : Box w b cs 35) (hg : w.grownBy w1 row) (hne : row ≠ some b) : Box w1 b cs 35 := (hg.block b h.lt (fun e => hne e.symm)).trans h
theorem appendInt_any (B : Nat) (i : Int) (sv : Value) (xs : List UInt8) (w : World) (hi : I64 i) (h : BRow B w sv xs) (hB : B ≤ w.heap.size) (h5 : 4 < B) (hl : xs.length ≤ 100000000) (ht : Tab w) :
    Calls Tryd.prog 45 #[sv, .int .i64 i, .int .i64 10] w fun e w' => ∃ v', e = .returned v' ∧ BRow B w' v' (xs ++ Lib.itoa i) ∧ Below B w w' ∧ ∀ b cs, Box w b cs 35 → Box w' b cs 35 := by
  refine (Any.strconv_AppendInt_10 Tryd.laysM176 B xs.length i hi.1 (by have := hi.2; omega) sv _ w h hB (by omega) (fun w' hb => ht.below hb h5)).mono ?_
  rintro e w' ⟨v', rfl, h1, h2, h3⟩
  refine ⟨v', rfl, ?_, h2, fun b cs hx => h3 b _ hx (by simp) (fun c fz e => by cases e)⟩
  unfold BRow
  rw [← cells_app, List.length_append]
  exact h1
theorem byte_new (w : World) (x : UInt8) (t : TypeId) {n : Nat} (hn : n = w.heap.size) : ∀ j u, (Lib.byteCells [x])[j]? = some u → (w.alloc (.cells #[.int .u8 x.toNat] t)).cell? ((⟨n, 0, none⟩ : Addr).add j) = some u := by
  subst hn
  intro j u h
  match j, h with
  | 0, h => simp [Lib.byteCells] at h; subst h; simp [go_sem, Addr.add]
theorem byte_one (x : UInt8) : ∀ u ∈ Lib.byteCells [x], u.oneCell' = true := by
  intro u hu
  simp [Lib.byteCells] at hu
  subst hu; rfl
theorem brow_snoc {w : World} {B : Nat} {v : Value} {a : List UInt8} {x : UInt8} (h : w.ownsRow B 5 1 v (a.length + 1) (Lib.byteCells a ++ Lib.byteCells [x])) : BRow B w v (a ++ [x]) := by
  unfold BRow
  rw [← cells_app]
  simpa using h
theorem brow_str {w : World} {B : Nat} {v : Value} {a : List UInt8} {s : ByteArray} (h : w.ownsRow B 5 1 v (a.length + s.size) (Lib.byteCells a ++ Lib.strCells s)) : BRow B w v (a ++ s.data.toList) := by
  unfold BRow
  rw [← cells_app, List.length_append, Array.length_toList]
  exact h
end Go.Proofs.YtpgcnejofnhhfaaDoor
