/- MemoryCounts: what the law's loop keeps. -/
import Derived.Test.YtbaljoehgdhhhaaAwake
import Derived.Test.YtbaljoehgdhhhaaSound
import Derived.Test.YtbaljoehgdhhhaaSwap
import Derived.Deep.CutBlock
import Derived.Deep.LoopGhost
namespace Go.Proofs.Ytbaljoehgdhhhaa
open Go.RowKit Go.Shelf Go.Maps
set_option linter.unusedVariables false
set_option linter.unusedSimpArgs false

theorem MD.setc {D : Nat → Prop} {w : World} {pv vv : Value} {M : Mem} {b : Nat} {cs : Array Value} {t : TypeId} (h : MD D w pv vv M) (hx : Box w b cs t) (hb : ¬ D b) (j : Nat) (u : Value) : MD D (w.setCell ⟨b, j, none⟩ u) pv vv M := h.only hx hb ((Only.refl b w).set j u)
def upd {α : Type} (f : Nat → α) (t : Nat) (a : α) : Nat → α := fun i => if i = t then a else f i
/-- What the loop of the law keeps: the memory's box, the words that were seen, who has looked. -/
structure AtK (w : World) (b5 b8 b9 : Nat) (u1 u2 : Option Addr) (M : Mem) (S : Nat → Int) (K : Nat → Bool) (W : World) : Prop where
  x5 : Box W b5 #[.slice u1 3 3, .slice u2 3 3] 31
  x8 : Box W b8 #[.int .i64 (S 0), .int .u32 0, .int .u32 0, .int .i64 (S 1), .int .u32 0, .int .u32 0, .int .i64 (S 2), .int .u32 0, .int .u32 0] 88
  x9 : Box W b9 #[.bool (K 0), .bool (K 1), .bool (K 2)] 89
  mm : MD (fun b => b ≠ b5 ∧ b ≠ b8 ∧ b ≠ b9) W (.slice u1 3 3) (.slice u2 3 3) M
  g : Below w.heap.size w W
  o : w.heap.size ≤ b5 ∧ b5 < b8 ∧ b8 < b9
/-- The memory as the law knows it: three threads, three places, the last word of p counts. -/
structure PK (N p : Nat) (n : Int) (M : Mem) : Prop where
  g : M.Good N
  h : M.hs.length = 3
  v : M.vs.length = 3
  l : wordV (M.msg p ((M.hist p).length - 1)) = .agg #[.int .i64 n, .int .u32 0, .int .u32 0]
theorem PK.look {N p k : Nat} {n : Int} {M : Mem} (h : PK N p n M) : PK (N + 1) p n (M.readAt k p ((M.hist p).length - 1) true) :=
  ⟨(h.g.readAt _ _ _ _).mono (by omega), h.h, by simp [Mem.readAt]; exact h.v, h.l⟩
theorem PK.hit {N p k : Nat} {n : Int} {M : Mem} (h : PK N p n M) (hp : p < 3) : PK (N + 1) p (n + 1) ((M.readAt k p ((M.hist p).length - 1) true).writeAt k p (n + 1) 0 0 true) := by
  have hp' : p < (M.readAt k p ((M.hist p).length - 1) true).hs.length := by show p < M.hs.length; rw [h.h]; exact hp
  refine ⟨(h.g.readAt _ _ _ _).writeAt _ _ _ _ _ _ hp', by rw [writeAt_len]; exact h.h, by simp [Mem.writeAt, Mem.readAt]; exact h.v, (last_write hp' _ _ _ _).2⟩
theorem PK.word {N p : Nat} {n : Int} {M : Mem} (h : PK N p n M) : (M.msg p ((M.hist p).length - 1)).val = n ∧ (M.msg p ((M.hist p).length - 1)).ver = 0 ∧ (M.msg p ((M.hist p).length - 1)).ref = 0 := by
  have := h.l
  unfold wordV at this
  injection this with this
  injection this with this
  simp only [List.cons.injEq, Value.int.injEq, and_true, true_and] at this
  exact this
theorem AtK.keep {w : World} {b5 b8 b9 : Nat} {u1 u2 : Option Addr} {M : Mem} {S : Nat → Int} {K : Nat → Bool} {W : World} (A : AtK w b5 b8 b9 u1 u2 M S K W) {v1 v2 : Option Addr} {M' : Mem} {W1 : World} (hb : Below W.heap.size W W1) (hm : MD (Dn (fun b => b ≠ b5 ∧ b ≠ b8 ∧ b ≠ b9) W) W1 (.slice v1 3 3) (.slice v2 3 3) M') : MD (fun b => b ≠ b5 ∧ b ≠ b8 ∧ b ≠ b9) W1 (.slice v1 3 3) (.slice v2 3 3) M' := by
  have h5 := A.x5.lt
  have h8 := A.x8.lt
  have h9 := A.x9.lt
  refine hm.imp fun b hb => ?_
  rcases hb with hb | hb
  · exact hb
  · refine ⟨?_, ?_, ?_⟩ <;> omega
theorem AtK.at9 {w : World} {b5 b8 b9 : Nat} {u1 u2 : Option Addr} {M : Mem} {S : Nat → Int} {K : Nat → Bool} {W : World} (A : AtK w b5 b8 b9 u1 u2 M S K W) {t : Nat} (ht : t < 3) : W.cell? ⟨b9, t, none⟩ = some (.bool (K t)) ∧ W.frozen? ⟨b9, t, none⟩ = false := by
  have ht' : t = 0 ∨ t = 1 ∨ t = 2 := by omega
  rcases ht' with rfl | rfl | rfl
  · exact ⟨A.x9.cell 0, A.x9.free 0⟩
  · exact ⟨A.x9.cell 1, A.x9.free 1⟩
  · exact ⟨A.x9.cell 2, A.x9.free 2⟩
theorem AtK.at8 {w : World} {b5 b8 b9 : Nat} {u1 u2 : Option Addr} {M : Mem} {S : Nat → Int} {K : Nat → Bool} {W : World} (A : AtK w b5 b8 b9 u1 u2 M S K W) {t : Nat} (ht : t < 3) : (W.cell? ⟨b8, t * 3, none⟩ = some (.int .i64 (S t)) ∧ W.cell? ⟨b8, t * 3 + 1, none⟩ = some (.int .u32 0) ∧ W.cell? ⟨b8, t * 3 + 2, none⟩ = some (.int .u32 0)) ∧ W.frozen? ⟨b8, t * 3, none⟩ = false ∧ W.frozen? ⟨b8, t * 3 + 1, none⟩ = false ∧ W.frozen? ⟨b8, t * 3 + 2, none⟩ = false := by
  have ht' : t = 0 ∨ t = 1 ∨ t = 2 := by omega
  rcases ht' with rfl | rfl | rfl
  · exact ⟨⟨A.x8.cell 0, A.x8.cell 1, A.x8.cell 2⟩, A.x8.free 0, A.x8.free 1, A.x8.free 2⟩
  · exact ⟨⟨A.x8.cell 3, A.x8.cell 4, A.x8.cell 5⟩, A.x8.free 3, A.x8.free 4, A.x8.free 5⟩
  · exact ⟨⟨A.x8.cell 6, A.x8.cell 7, A.x8.cell 8⟩, A.x8.free 6, A.x8.free 7, A.x8.free 8⟩
theorem AtK.look {w : World} {b5 b8 b9 : Nat} {u1 u2 : Option Addr} {M : Mem} {S : Nat → Int} {K : Nat → Bool} {W : World} (A : AtK w b5 b8 b9 u1 u2 M S K W) {v1 v2 : Option Addr} {M' : Mem} {W1 : World} (hb : Below W.heap.size W W1) (hm : MD (Dn (fun b => b ≠ b5 ∧ b ≠ b8 ∧ b ≠ b9) W) W1 (.slice v1 3 3) (.slice v2 3 3) M') {t : Nat} (ht : t < 3) (s : Int) :
    AtK w b5 b8 b9 v1 v2 M' (upd S t s) (upd K t true) ((((((W1.setCell ⟨b5, 0, none⟩ (.slice v1 3 3)).setCell ⟨b5, 1, none⟩ (.slice v2 3 3)).setCell ⟨b8, t * 3, none⟩ (.int .i64 s)).setCell ⟨b8, t * 3 + 1, none⟩ (.int .u32 0)).setCell ⟨b8, t * 3 + 2, none⟩ (.int .u32 0)).setCell ⟨b9, t, none⟩ (.bool true)) := by
  obtain ⟨o1, o2, o3⟩ := A.o
  have m0 := A.keep hb hm
  have y5 := A.x5.below hb
  have y8 := A.x8.below hb
  have y9 := A.x9.below hb
  have n58 : b5 ≠ b8 := by omega
  have n59 : b5 ≠ b9 := by omega
  have n89 : b8 ≠ b9 := by omega
  have ht' : t = 0 ∨ t = 1 ∨ t = 2 := by omega
  rcases ht' with rfl | rfl | rfl
  · exact ⟨by simpa [upd] using ((((((y5.set 0 (.slice v1 3 3)).set 1 (.slice v2 3 3)).other n58 0 (.int .i64 s)).other n58 1 (.int .u32 0)).other n58 2 (.int .u32 0)).other n59 0 (.bool true)), by simpa [upd] using ((((((y8.other n58.symm 0 (.slice v1 3 3)).other n58.symm 1 (.slice v2 3 3)).set 0 (.int .i64 s)).set 1 (.int .u32 0)).set 2 (.int .u32 0)).other n89 0 (.bool true)), by simpa [upd] using ((((((y9.other n59.symm 0 (.slice v1 3 3)).other n59.symm 1 (.slice v2 3 3)).other n89.symm 0 (.int .i64 s)).other n89.symm 1 (.int .u32 0)).other n89.symm 2 (.int .u32 0)).set 0 (.bool true)), ((((((m0.setc y5 (by simp) 0 (.slice v1 3 3)).setc (y5.set 0 (.slice v1 3 3)) (by simp) 1 (.slice v2 3 3)).setc ((y8.other n58.symm 0 (.slice v1 3 3)).other n58.symm 1 (.slice v2 3 3)) (by simp) 0 (.int .i64 s)).setc (((y8.other n58.symm 0 (.slice v1 3 3)).other n58.symm 1 (.slice v2 3 3)).set 0 (.int .i64 s)) (by simp) 1 (.int .u32 0)).setc ((((y8.other n58.symm 0 (.slice v1 3 3)).other n58.symm 1 (.slice v2 3 3)).set 0 (.int .i64 s)).set 1 (.int .u32 0)) (by simp) 2 (.int .u32 0)).setc (((((y9.other n59.symm 0 (.slice v1 3 3)).other n59.symm 1 (.slice v2 3 3)).other n89.symm 0 (.int .i64 s)).other n89.symm 1 (.int .u32 0)).other n89.symm 2 (.int .u32 0)) (by simp) 0 (.bool true)), (((((((A.g.trans (hb.mono A.g.size)).setCell (p := ⟨b5, 0, none⟩) (by show w.heap.size ≤ b5; omega) (.slice v1 3 3)).setCell (p := ⟨b5, 1, none⟩) (by show w.heap.size ≤ b5; omega) (.slice v2 3 3)).setCell (p := ⟨b8, 0, none⟩) (by show w.heap.size ≤ b8; omega) (.int .i64 s)).setCell (p := ⟨b8, 1, none⟩) (by show w.heap.size ≤ b8; omega) (.int .u32 0)).setCell (p := ⟨b8, 2, none⟩) (by show w.heap.size ≤ b8; omega) (.int .u32 0)).setCell (p := ⟨b9, 0, none⟩) (by show w.heap.size ≤ b9; omega) (.bool true)), A.o⟩
  · exact ⟨by simpa [upd] using ((((((y5.set 0 (.slice v1 3 3)).set 1 (.slice v2 3 3)).other n58 3 (.int .i64 s)).other n58 4 (.int .u32 0)).other n58 5 (.int .u32 0)).other n59 1 (.bool true)), by simpa [upd] using ((((((y8.other n58.symm 0 (.slice v1 3 3)).other n58.symm 1 (.slice v2 3 3)).set 3 (.int .i64 s)).set 4 (.int .u32 0)).set 5 (.int .u32 0)).other n89 1 (.bool true)), by simpa [upd] using ((((((y9.other n59.symm 0 (.slice v1 3 3)).other n59.symm 1 (.slice v2 3 3)).other n89.symm 3 (.int .i64 s)).other n89.symm 4 (.int .u32 0)).other n89.symm 5 (.int .u32 0)).set 1 (.bool true)), ((((((m0.setc y5 (by simp) 0 (.slice v1 3 3)).setc (y5.set 0 (.slice v1 3 3)) (by simp) 1 (.slice v2 3 3)).setc ((y8.other n58.symm 0 (.slice v1 3 3)).other n58.symm 1 (.slice v2 3 3)) (by simp) 3 (.int .i64 s)).setc (((y8.other n58.symm 0 (.slice v1 3 3)).other n58.symm 1 (.slice v2 3 3)).set 3 (.int .i64 s)) (by simp) 4 (.int .u32 0)).setc ((((y8.other n58.symm 0 (.slice v1 3 3)).other n58.symm 1 (.slice v2 3 3)).set 3 (.int .i64 s)).set 4 (.int .u32 0)) (by simp) 5 (.int .u32 0)).setc (((((y9.other n59.symm 0 (.slice v1 3 3)).other n59.symm 1 (.slice v2 3 3)).other n89.symm 3 (.int .i64 s)).other n89.symm 4 (.int .u32 0)).other n89.symm 5 (.int .u32 0)) (by simp) 1 (.bool true)), (((((((A.g.trans (hb.mono A.g.size)).setCell (p := ⟨b5, 0, none⟩) (by show w.heap.size ≤ b5; omega) (.slice v1 3 3)).setCell (p := ⟨b5, 1, none⟩) (by show w.heap.size ≤ b5; omega) (.slice v2 3 3)).setCell (p := ⟨b8, 3, none⟩) (by show w.heap.size ≤ b8; omega) (.int .i64 s)).setCell (p := ⟨b8, 4, none⟩) (by show w.heap.size ≤ b8; omega) (.int .u32 0)).setCell (p := ⟨b8, 5, none⟩) (by show w.heap.size ≤ b8; omega) (.int .u32 0)).setCell (p := ⟨b9, 1, none⟩) (by show w.heap.size ≤ b9; omega) (.bool true)), A.o⟩
  · exact ⟨by simpa [upd] using ((((((y5.set 0 (.slice v1 3 3)).set 1 (.slice v2 3 3)).other n58 6 (.int .i64 s)).other n58 7 (.int .u32 0)).other n58 8 (.int .u32 0)).other n59 2 (.bool true)), by simpa [upd] using ((((((y8.other n58.symm 0 (.slice v1 3 3)).other n58.symm 1 (.slice v2 3 3)).set 6 (.int .i64 s)).set 7 (.int .u32 0)).set 8 (.int .u32 0)).other n89 2 (.bool true)), by simpa [upd] using ((((((y9.other n59.symm 0 (.slice v1 3 3)).other n59.symm 1 (.slice v2 3 3)).other n89.symm 6 (.int .i64 s)).other n89.symm 7 (.int .u32 0)).other n89.symm 8 (.int .u32 0)).set 2 (.bool true)), ((((((m0.setc y5 (by simp) 0 (.slice v1 3 3)).setc (y5.set 0 (.slice v1 3 3)) (by simp) 1 (.slice v2 3 3)).setc ((y8.other n58.symm 0 (.slice v1 3 3)).other n58.symm 1 (.slice v2 3 3)) (by simp) 6 (.int .i64 s)).setc (((y8.other n58.symm 0 (.slice v1 3 3)).other n58.symm 1 (.slice v2 3 3)).set 6 (.int .i64 s)) (by simp) 7 (.int .u32 0)).setc ((((y8.other n58.symm 0 (.slice v1 3 3)).other n58.symm 1 (.slice v2 3 3)).set 6 (.int .i64 s)).set 7 (.int .u32 0)) (by simp) 8 (.int .u32 0)).setc (((((y9.other n59.symm 0 (.slice v1 3 3)).other n59.symm 1 (.slice v2 3 3)).other n89.symm 6 (.int .i64 s)).other n89.symm 7 (.int .u32 0)).other n89.symm 8 (.int .u32 0)) (by simp) 2 (.bool true)), (((((((A.g.trans (hb.mono A.g.size)).setCell (p := ⟨b5, 0, none⟩) (by show w.heap.size ≤ b5; omega) (.slice v1 3 3)).setCell (p := ⟨b5, 1, none⟩) (by show w.heap.size ≤ b5; omega) (.slice v2 3 3)).setCell (p := ⟨b8, 6, none⟩) (by show w.heap.size ≤ b8; omega) (.int .i64 s)).setCell (p := ⟨b8, 7, none⟩) (by show w.heap.size ≤ b8; omega) (.int .u32 0)).setCell (p := ⟨b8, 8, none⟩) (by show w.heap.size ≤ b8; omega) (.int .u32 0)).setCell (p := ⟨b9, 2, none⟩) (by show w.heap.size ≤ b9; omega) (.bool true)), A.o⟩
theorem AtK.drop {w : World} {b5 b8 b9 : Nat} {u1 u2 : Option Addr} {M : Mem} {S : Nat → Int} {K : Nat → Bool} {W : World} (A : AtK w b5 b8 b9 u1 u2 M S K W) {t : Nat} (ht : t < 3) : AtK w b5 b8 b9 u1 u2 M S (upd K t false) (W.setCell ⟨b9, t, none⟩ (.bool false)) := by
  obtain ⟨o1, o2, o3⟩ := A.o
  have ht' : t = 0 ∨ t = 1 ∨ t = 2 := by omega
  rcases ht' with rfl | rfl | rfl
  · exact ⟨A.x5.other (by omega) 0 _, A.x8.other (by omega) 0 _, by simpa [upd] using A.x9.set 0 (.bool false), A.mm.setc A.x9 (by simp) 0 _, A.g.setCell (p := ⟨b9, 0, none⟩) (by show w.heap.size ≤ b9; omega) _, A.o⟩
  · exact ⟨A.x5.other (by omega) 1 _, A.x8.other (by omega) 1 _, by simpa [upd] using A.x9.set 1 (.bool false), A.mm.setc A.x9 (by simp) 1 _, A.g.setCell (p := ⟨b9, 1, none⟩) (by show w.heap.size ≤ b9; omega) _, A.o⟩
  · exact ⟨A.x5.other (by omega) 2 _, A.x8.other (by omega) 2 _, by simpa [upd] using A.x9.set 2 (.bool false), A.mm.setc A.x9 (by simp) 2 _, A.g.setCell (p := ⟨b9, 2, none⟩) (by show w.heap.size ≤ b9; omega) _, A.o⟩
theorem AtK.swapped {w : World} {b5 b8 b9 : Nat} {u1 u2 z1 z2 : Option Addr} {M' : Mem} {S : Nat → Int} {K : Nat → Bool} {W : World} (x5 : Box W b5 #[.slice u1 3 3, .slice u2 3 3] 31) (x8 : Box W b8 #[.int .i64 (S 0), .int .u32 0, .int .u32 0, .int .i64 (S 1), .int .u32 0, .int .u32 0, .int .i64 (S 2), .int .u32 0, .int .u32 0] 88) (x9 : Box W b9 #[.bool (K 0), .bool (K 1), .bool (K 2)] 89) (mm : MD (fun b => b ≠ b5 ∧ b ≠ b8 ∧ b ≠ b9) W (.slice z1 3 3) (.slice z2 3 3) M') (g : Below w.heap.size w W) (o : w.heap.size ≤ b5 ∧ b5 < b8 ∧ b8 < b9) :
    AtK w b5 b8 b9 z1 z2 M' S K ((W.setCell ⟨b5, 0, none⟩ (.slice z1 3 3)).setCell ⟨b5, 1, none⟩ (.slice z2 3 3)) := by
  obtain ⟨o1, o2, o3⟩ := o
  have n58 : b8 ≠ b5 := by omega
  have n59 : b9 ≠ b5 := by omega
  exact ⟨by simpa using (x5.set 0 (.slice z1 3 3)).set 1 (.slice z2 3 3), (x8.other n58 _ _).other n58 _ _, (x9.other n59 _ _).other n59 _ _, (mm.setc x5 (by simp) _ _).setc (x5.set 0 _) (by simp) _ _, (g.setCell (p := ⟨b5, 0, none⟩) o1 _).setCell (p := ⟨b5, 1, none⟩) o1 _, ⟨o1, o2, o3⟩⟩
/-- A slice of bytes reads as l. -/
def U8s (w : World) (v : Value) (l : List Int) : Prop := ∃ a cap, v = .slice a l.length cap ∧ (l = [] ∨ ∃ b off, a = some ⟨b, off, none⟩ ∧ b < w.heap.size ∧ ∀ i, i < l.length → w.cell? ⟨b, off + i, none⟩ = some (.int .u8 (l.getD i 0)) ∧ 0 ≤ l.getD i 0 ∧ l.getD i 0 < 256)
/-- What the loop of the law keeps, with what it knows of the memory. -/
def InvK (w : World) (b5 b8 b9 p n1 : Nat) (nv iv : Value) (W : World) : Prop := ∃ (k : Nat) (n : Int) (u1 u2 : Option Addr) (M : Mem) (S : Nat → Int) (K : Nat → Bool), nv = .int .i64 n ∧ iv = .int .i64 k ∧ k ≤ n1 ∧ (0 ≤ n ∧ n ≤ k) ∧ (∀ t, t < 3 → 0 ≤ S t ∧ S t ≤ k) ∧ PK (1 + k) p n M ∧ AtK w b5 b8 b9 u1 u2 M S K W
theorem AtK.at8' {b8 : Nat} {S : Nat → Int} {W : World} (h : Box W b8 #[.int .i64 (S 0), .int .u32 0, .int .u32 0, .int .i64 (S 1), .int .u32 0, .int .u32 0, .int .i64 (S 2), .int .u32 0, .int .u32 0] 88) {t : Nat} (ht : t < 3) : (W.cell? ⟨b8, t * 3, none⟩ = some (.int .i64 (S t)) ∧ W.cell? ⟨b8, t * 3 + 1, none⟩ = some (.int .u32 0) ∧ W.cell? ⟨b8, t * 3 + 2, none⟩ = some (.int .u32 0)) ∧ W.frozen? ⟨b8, t * 3, none⟩ = false ∧ W.frozen? ⟨b8, t * 3 + 1, none⟩ = false ∧ W.frozen? ⟨b8, t * 3 + 2, none⟩ = false := by
  have ht' : t = 0 ∨ t = 1 ∨ t = 2 := by omega
  rcases ht' with rfl | rfl | rfl
  · exact ⟨⟨h.cell 0, h.cell 1, h.cell 2⟩, h.free 0, h.free 1, h.free 2⟩
  · exact ⟨⟨h.cell 3, h.cell 4, h.cell 5⟩, h.free 3, h.free 4, h.free 5⟩
  · exact ⟨⟨h.cell 6, h.cell 7, h.cell 8⟩, h.free 6, h.free 7, h.free 8⟩
theorem AtK.at9' {b9 : Nat} {K : Nat → Bool} {W : World} (h : Box W b9 #[.bool (K 0), .bool (K 1), .bool (K 2)] 89) {t : Nat} (ht : t < 3) : W.cell? ⟨b9, t, none⟩ = some (.bool (K t)) ∧ W.frozen? ⟨b9, t, none⟩ = false := by
  have ht' : t = 0 ∨ t = 1 ∨ t = 2 := by omega
  rcases ht' with rfl | rfl | rfl
  · exact ⟨h.cell 0, h.free 0⟩
  · exact ⟨h.cell 1, h.free 1⟩
  · exact ⟨h.cell 2, h.free 2⟩
set_option maxRecDepth 100000 in
set_option maxHeartbeats 1600000 in
theorem counts_long (v : Value) (l : List Int) (t : Nat) (w : World) (hv : U8s w v l) (hl : 80 < l.length) : Calls Try.prog 7 #[v, .int .u8 t] w fun e w' => e = .returned (.bool true) ∧ Below w.heap.size w w' := by
  obtain ⟨a, cap, rfl, -⟩ := hv
  have h1 : (80 : Int) < l.length := by omega
  go_enter Try.func7, Try.ntmps7
  go_wp2_with fail
  refine (awake_any _).mono ?_
  rintro e w1 ⟨rfl, hb⟩
  have BB := Lib.hid hb
  clear hb
  go_wp2_with fail
  go_ret
  exact ⟨rfl, BB.out⟩
end Go.Proofs.Ytbaljoehgdhhhaa
