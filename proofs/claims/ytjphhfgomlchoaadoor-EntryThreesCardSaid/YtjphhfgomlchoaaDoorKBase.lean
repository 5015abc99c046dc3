/- Slices of structs of k cells as lists: a slice that reads as a list, one of one's own, append, an argument opened; boxes. Over any program. -/
import Derived.WalkKit
import Derived.WalkSpells
import Derived.WalkLawsBesides
import Derived.ProofKit
import Derived.OpenShut
import Derived.Lib.Hide
import Derived.IntWalk
import Derived.Deep.LoopGhost
import Derived.Deep.RegionHeld3
import Derived.Deep.AppendLies
import Derived.Deep.AppendSrc
import Derived.Deep.Upon
import Derived.Deep.DeepAppendWide
import Derived.Carry
import Derived.Maps.Own
import Derived.Maps.OwnOps
import Derived.Maps.OwnSet
import Derived.Handy
import Derived.Laws.Rows
import Derived.Laws.Tables
import Derived.Laws.ResultCell
import Derived.ShutString
import Derived.ChangeOld
import Derived.Deep.SlicePairs
import Derived.Deep.Strs
import Derived.Lib.SmallJoins
import Derived.Deep.Cut
import Derived.Deep.CutBlock
import Derived.Deep.DeepCutAuto
import Derived.Deep.RegionLaw
import Derived.BigQuiet
import Derived.Deep.QuietTactic
import Derived.ArgAppend
import Derived.Laws.StructEq
import Derived.DeepKeys4
import Derived.Maps.Keyed
import Derived.Maps.Views
namespace Go.Proofs.YtjphhfgomlchoaaDoor
open Go.ChangeShapes Go.WideShapes Go.ChangeAt Go.RowKit Go.Maps Go.Deep

theorem below1 (w : World) (o : Obj) : Below w.heap.size w (w.alloc o) := (Below.refl _ _).alloc (Nat.le_refl _) o
theorem below_drewN {B : Nat} {a w : World} (h : Below B a w) (n : Nat) : Below B a (w.drewN n) := ⟨h.os, h.tape, h.output, h.size, h.block⟩
theorem lt_block {w : World} {b : Nat} {o : Obj} (h : w.heap[b]? = some o) : b < w.heap.size := (Array.getElem?_eq_some_iff.1 h).1
theorem blk1 (w : World) (a : Obj) {n : Nat} (hn : n = w.heap.size) : (w.alloc a).heap[n]? = some a := by subst hn; exact heap_alloc_new ..
theorem blkS {w : World} {a : Obj} {n : Nat} {o : Obj} (h : w.heap[n]? = some o) : (w.alloc a).heap[n]? = some o := by
  rw [Below.heap_alloc _ _ _ (lt_block h)]; exact h
/-- Block b holds just these cells, none of them frozen. -/
def Box (w : World) (b : Nat) (cs : Array Value) (t : TypeId) : Prop := w.heap[b]? = some (.cells cs t (0, 0))
theorem Box.lt {w : World} {b : Nat} {cs : Array Value} {t : TypeId} (h : Box w b cs t) : b < w.heap.size := lt_block h
theorem Box.below {w w1 : World} {b : Nat} {cs : Array Value} {t : TypeId} (h : Box w b cs t) (hb : Below w.heap.size w w1) : Box w1 b cs t := (hb.block b h.lt).trans h
theorem Box.cell {w : World} {b : Nat} {cs : Array Value} {t : TypeId} (h : Box w b cs t) (j : Nat) : w.cell? ⟨b, j, none⟩ = cs[j]? := by
  unfold World.cell?
  simp [show w.heap[b]? = _ from h]
theorem Box.free {w : World} {b : Nat} {cs : Array Value} {t : TypeId} (h : Box w b cs t) (j : Nat) : w.frozen? ⟨b, j, none⟩ = false := by
  unfold World.frozen?
  simp [show w.heap[b]? = _ from h]
theorem Box.new (w : World) (cs : Array Value) (t : TypeId) {n : Nat} (hn : n = w.heap.size) : Box (w.alloc (.cells cs t)) n cs t := blk1 w _ hn
theorem Box.alloc {w : World} {b : Nat} {cs : Array Value} {t : TypeId} (h : Box w b cs t) (o : Obj) : Box (w.alloc o) b cs t := blkS h
theorem Box.drewN {w : World} {b : Nat} {cs : Array Value} {t : TypeId} (h : Box w b cs t) (n : Nat) : Box (w.drewN n) b cs t := h
theorem Box.set {w : World} {b : Nat} {cs : Array Value} {t : TypeId} (h : Box w b cs t) (j : Nat) (u : Value) : Box (w.setCell ⟨b, j, none⟩ u) b (cs.setIfInBounds j u) t := by
  unfold Box at *
  unfold World.setCell
  simp only
  rw [Array.getElem?_modify, if_pos rfl, h]
  rfl
theorem Box.other {w : World} {b : Nat} {cs : Array Value} {t : TypeId} (h : Box w b cs t) {b' : Nat} (hb : b ≠ b') (j : Nat) (u : Value) : Box (w.setCell ⟨b', j, none⟩ u) b cs t := by
  unfold Box at *
  rw [Below.heap_setCell _ _ _ _ (by simpa using hb)]; exact h
theorem Box.ne {w : World} {b c : Nat} {x y : Array Value} {t s : TypeId} (h : Box w b x t) (h' : Box w c y s) (hts : t ≠ s) : b ≠ c := by
  rintro rfl
  unfold Box at h h'
  rw [h] at h'
  injection h' with h'
  injection h' with _ e
  exact hts e
theorem Box.grown {w w' : World} {b : Nat} {cs : Array Value} {t : TypeId} {row : Option Nat} (h : Box w b cs t) (hg : w.grownBy w' row) (hne : some b ≠ row) : Box w' b cs t := (hg.block b h.lt hne).trans h
theorem row_below {w w1 : World} {B : Nat} {e : TypeId} {size : Nat} {v : Value} {n : Nat} {xs : List Value} (h : w.ownsRow B e size v n xs) (hb : Below w.heap.size w w1) : w1.ownsRow B e size v n xs := by
  obtain ⟨h1, h2 | ⟨g, cap, cur, hv, hB, hh, r⟩⟩ := h
  · exact ⟨h1, .inl h2⟩
  · have hg : g < w.heap.size := (Array.getElem?_eq_some_iff.1 hh).1
    exact ⟨h1, .inr ⟨g, cap, cur, hv, hB, (hb.block g hg).trans hh, r⟩⟩
theorem info_parts {P : Program} {t : TypeId} {z : Value} {s b : Nat} (h : (P.info? t).map (fun i => (i.zero, i.size, i.bytes)) = some (some z, s, b)) : ∃ i, P.info? t = some i ∧ i.zero = some z ∧ i.size = s ∧ i.bytes = b := by
  cases hi : P.info? t with
  | none => rw [hi] at h; cases h
  | some i =>
    rw [hi] at h
    simp only [Option.map_some, Option.some.injEq, Prod.mk.injEq] at h
    exact ⟨i, rfl, h.1, h.2.1, h.2.2⟩
theorem addr_add (b o j : Nat) : (⟨b, o, none⟩ : Addr).add j = ⟨b, o + j, none⟩ := by simp only [Addr.add]; split <;> simp_all

/-- How elements lie as cells. -/
structure Enc (α : Type) where
  k : Nat
  enc : α → List Value
  len : ∀ x, (enc x).length = k
  one : ∀ x, ∀ u ∈ enc x, u.oneCell' = true
  pos : 0 < k
variable {α : Type} {E : Enc α}
def Enc.flat (E : Enc α) (l : List α) : List Value := l.flatMap E.enc
theorem flatK_append (a b : List α) : E.flat (a ++ b) = E.flat a ++ E.flat b := List.flatMap_append
theorem flatK_one (l : List α) : ∀ u ∈ E.flat l, u.oneCell' = true := by
  intro u hu
  simp only [Enc.flat, List.mem_flatMap] at hu
  obtain ⟨p, _, hu⟩ := hu
  exact E.one p u hu
theorem flatK_len (l : List α) : (E.flat l).length = l.length * E.k := by
  induction l with
  | nil => simp [Enc.flat]
  | cons p r ih => rw [show E.flat (p :: r) = E.enc p ++ E.flat r from rfl, List.length_append, ih, E.len, List.length_cons, Nat.succ_mul]; omega
theorem flatK_at [Inhabited α] (l : List α) (i j : Nat) (h : i < l.length) (hj : j < E.k) : (E.flat l)[i * E.k + j]? = (E.enc l[i]!)[j]? := by
  induction l generalizing i with
  | nil => simp at h
  | cons p r ih =>
    rw [show E.flat (p :: r) = E.enc p ++ E.flat r from rfl]
    cases i with
    | zero =>
      rw [Nat.zero_mul, Nat.zero_add, List.getElem?_append_left (by rw [E.len]; exact hj)]
      rfl
    | succ i =>
      have h2 := ih i (by simpa using h)
      rw [List.getElem?_append_right (by rw [E.len, Nat.succ_mul]; omega), E.len, show (i + 1) * E.k + j - E.k = i * E.k + j by rw [Nat.succ_mul]; omega, h2]
      rfl
/-- The cells of block b from off on read as the list L. -/
def RdK [Inhabited α] (E : Enc α) (w : World) (b off : Nat) (L : List α) : Prop :=
  ∀ i, i < L.length → ∀ j u, (E.enc L[i]!)[j]? = some u → w.cell? ⟨b, off + i * E.k + j, none⟩ = some u
theorem rdK_flat [Inhabited α] {w : World} {b off : Nat} {L : List α} : RdK E w b off L ↔ ∀ j u, (E.flat L)[j]? = some u → w.cell? ⟨b, off + j, none⟩ = some u := by
  constructor
  · intro h j u hu
    have hj : j < L.length * E.k := by
      rcases Nat.lt_or_ge j (E.flat L).length with h' | h'
      · rwa [flatK_len] at h'
      · rw [List.getElem?_eq_none h'] at hu; cases hu
    have hp := E.pos
    have hr : j % E.k < E.k := Nat.mod_lt _ hp
    have hd : j / E.k < L.length := (Nat.div_lt_iff_lt_mul hp).2 hj
    have e : j = j / E.k * E.k + j % E.k := by rw [Nat.mul_comm]; exact (Nat.div_add_mod j E.k).symm
    rw [e, flatK_at L _ _ hd hr] at hu
    have := h _ hd _ _ hu
    rw [Nat.add_assoc, ← e] at this
    exact this
  · intro h i hi j u hu
    have hj : j < E.k := by
      rcases Nat.lt_or_ge j (E.enc L[i]!).length with h' | h'
      · rwa [E.len] at h'
      · rw [List.getElem?_eq_none h'] at hu; cases hu
    rw [Nat.add_assoc]
    exact h _ _ ((flatK_at L i j hi hj).trans hu)
/-- The slice v reads as L. -/
def SK [Inhabited α] (E : Enc α) (w : World) (v : Value) (L : List α) : Prop :=
  ∃ a cap, v = .slice a L.length cap ∧ L.length ≤ cap ∧ (L = [] ∨ ∃ b off, a = some ⟨b, off, none⟩ ∧ b < w.heap.size ∧ RdK E w b off L)
theorem SK.below [Inhabited α] {w w1 : World} {v : Value} {L : List α} (h : SK E w v L) (hb : Below w.heap.size w w1) : SK E w1 v L := by
  obtain ⟨a, cap, hv, hcap, h | ⟨b, off, ha, hl, hc⟩⟩ := h
  · exact ⟨a, cap, hv, hcap, .inl h⟩
  · exact ⟨a, cap, hv, hcap, .inr ⟨b, off, ha, Nat.lt_of_lt_of_le hl hb.size, fun i hi j u hu => (hb.cell hl).trans (hc i hi j u hu)⟩⟩
theorem SK.nil [Inhabited α] (w : World) (a : Option Addr) (cap : Nat) : SK E w (.slice a 0 cap) [] := ⟨a, cap, rfl, Nat.zero_le _, .inl rfl⟩
theorem SK.form [Inhabited α] {w : World} {v : Value} {L : List α} (h : SK E w v L) : ∃ a cap, v = .slice a L.length cap ∧ L.length ≤ cap := by
  obtain ⟨a, cap, e, h, _⟩ := h; exact ⟨a, cap, e, h⟩
theorem SK.addr [Inhabited α] {w : World} {a : Option Addr} {n c k : Nat} {L : List α} (h : SK E w (.slice a n c) L) (hk : k < n) : ∃ b off, a = some ⟨b, off, none⟩ ∧ b < w.heap.size ∧ L.length = n ∧ RdK E w b off L := by
  obtain ⟨a', c', e, _, h⟩ := h
  injection e with e1 e2 e3
  subst e1 e2 e3
  rcases h with h | ⟨b, off, h1, h2, h3⟩
  · subst h; simp at hk
  · exact ⟨b, off, h1, h2, rfl, h3⟩
/-- A part of a slice. -/
theorem SK.part [Inhabited α] {w : World} {b off n c : Nat} {L : List α} (h : SK E w (.slice (some ⟨b, off, none⟩) n c) L) (i j c' : Nat) (hij : i ≤ j) (hj : j ≤ n) (hc : j - i ≤ c') : SK E w (.slice (some ⟨b, off + i * E.k, none⟩) (j - i) c') ((L.take j).drop i) := by
  obtain ⟨a', c'', e, hcap, h⟩ := h
  injection e with e1 e2 e3
  subst e2 e3
  have hl : ((L.take j).drop i).length = j - i := by simp; omega
  refine ⟨_, c', by rw [hl], by rw [hl]; exact hc, ?_⟩
  rcases Nat.eq_zero_or_pos (j - i) with h0 | h0
  · exact .inl (List.length_eq_zero_iff.1 (by omega))
  right
  rcases h with h | ⟨b2, off2, e2, h2, h3⟩
  · subst h; simp at hj; omega
  · injection e1.trans e2 with e4
    injection e4 with e5 e6
    subst e5 e6
    refine ⟨_, _, rfl, h2, fun x hx jj u hu => ?_⟩
    rw [hl] at hx
    have hg : ((L.take j).drop i)[x]! = L[i + x]! := by
      rw [getElem!_pos _ x (by omega), getElem!_pos L (i + x) (by omega)]
      simp
    rw [hg] at hu
    have := h3 (i + x) (by omega) jj u hu
    rw [Nat.add_mul] at this
    rw [show off + i * E.k + x * E.k + jj = off + (i * E.k + x * E.k) + jj by omega]
    exact this
/-- The slice v (of elements of type t) reads as L, and is nobody else's to write; its block is not below B. -/
def RowK (E : Enc α) (t : TypeId) (B : Nat) (w : World) (v : Value) (L : List α) : Prop := w.ownsRow B t E.k v L.length (E.flat L)
theorem RowK.nil (t : TypeId) (B : Nat) (w : World) : RowK E t B w (.slice none 0 0) [] := World.ownsRow_nil w B t E.k
theorem RowK.below {t : TypeId} {B : Nat} {w w1 : World} {v : Value} {m : List α} (h : RowK E t B w v m) (hb : Below w.heap.size w w1) : RowK E t B w1 v m := row_below h hb
theorem RowK.mono {t : TypeId} {B B' : Nat} {w : World} {v : Value} {m : List α} (h : RowK E t B w v m) (hB : B' ≤ B) : RowK E t B' w v m := by
  obtain ⟨h1, h2 | ⟨g, cap, cur, hv, hb, r⟩⟩ := h
  · exact ⟨h1, .inl h2⟩
  · exact ⟨h1, .inr ⟨g, cap, cur, hv, Nat.le_trans hB hb, r⟩⟩
theorem RowK.sk [Inhabited α] {t : TypeId} {B : Nat} {w : World} {v : Value} {m : List α} (h : RowK E t B w v m) : SK E w v m := by
  have h0 := h
  obtain ⟨h1, ⟨h2, h3⟩ | ⟨g, cap, cur, hv, hB, hh, hc, r⟩⟩ := h
  · obtain rfl := List.length_eq_zero_iff.1 h3
    exact ⟨_, _, h2, Nat.le_refl _, .inl rfl⟩
  · subst hv
    refine ⟨_, cap, rfl, hc, .inr ⟨g, 0, rfl, (Array.getElem?_eq_some_iff.1 hh).1, rdK_flat.2 fun j u hu => ?_⟩⟩
    have hj : j < m.length * E.k := by
      rcases Nat.lt_or_ge j (E.flat m).length with h' | h'
      · rwa [flatK_len] at h'
      · rw [List.getElem?_eq_none h'] at hu; cases hu
    rw [Nat.zero_add]
    exact (World.ownsRow.cellAt h0 j hj).trans hu
theorem RowK.form [Inhabited α] {t : TypeId} {B : Nat} {w : World} {v : Value} {m : List α} (h : RowK E t B w v m) : ∃ a cap, v = .slice a m.length cap ∧ m.length ≤ cap := h.sk.form
theorem below_appK {B : Nat} {w wr w1 : World} {vo : Value} {nn size : Nat} {xs : List Value} (hnx : Below B w wr) (hB : B ≤ wr.heap.size) {e : TypeId} (hown : wr.ownsRow B e size vo nn xs) (hg : wr.grownBy w1 vo.ownBlock) : Below B w w1 :=
  hnx.grown hg hB (fun j hj => (hown.lt j hj).1)
/-- append of the elements ss onto a row of one's own. -/
theorem run_appK [Inhabited α] {P : Program} {st e : TypeId} {z : Value} {bytes : Nat} (hst : P.underlying st = some (.slice e)) (hin : (P.info? e).map (fun i => (i.zero, i.size, i.bytes)) = some (some z, E.k, bytes)) (hz : z.cells.size = E.k) (hbt : bytes ≤ 4096) {w : World} {B : Nat} {v : Value} {l : List α} (ty : TypeId) (hown : RowK E e B w v l) {x : Value} {ss : List α} (hx : SK E w x ss) (hn : l.length + ss.length ≤ 1000000) (hB : B ≤ w.heap.size) :
    ∃ v' w', (Builtin.append_ #[st, st] ty #[v, x]).run P w = .ok v' w' ∧ RowK E e B w' v' (l ++ ss) ∧ w.grownBy w' v.ownBlock := by
  obtain ⟨i, hi, hz0, h1, h2⟩ := info_parts hin
  obtain ⟨a, c, rfl, hcap, hc⟩ := hx
  unfold RowK at *
  rw [flatK_append, List.length_append]
  cases ss with
  | nil =>
    have hsrc : Src P i.size st (.slice a 0 c) 0 [] w := by
      cases a with
      | none => exact Src.ofNil w hst c
      | some a => exact Src.ofSlice w hst a 0 c [] (by simp) (fun j u h => by simp at h) (fun u h => by cases h)
    obtain ⟨base, sc', hv, hle⟩ : ∃ base sc', v = .slice base l.length sc' ∧ l.length ≤ sc' := by
      obtain ⟨_, ⟨e1, e2⟩ | ⟨g, cap, cur, e1, _, _, hle, _⟩⟩ := hown
      · exact ⟨_, _, by rw [e2]; exact e1, by omega⟩
      · exact ⟨_, _, e1, hle⟩
    subst hv
    have hr := run_append_nothing w st st ty e i hst hi base l.length sc' hle (.slice a 0 c) hsrc
    exact ⟨_, _, hr, by simpa [Enc.flat] using hown, World.grownBy.refl _ _⟩
  | cons s r =>
    rcases hc with hc | ⟨b, o, rfl, hlt, hcs⟩
    · cases hc
    have hlen : l.length + (s :: r).length ≤ 1000000 := hn
    obtain ⟨v', w', e1, e2, e3, _⟩ := run_append_own_wide w B st ty e i _ E.k bytes hst hi hz0 h1 h2 hz E.pos v l.length (E.flat l) hown ⟨b, o, none⟩ (s :: r).length c (E.flat (s :: r)) (flatK_len _)
      (fun j u hu => by rw [addr_add]; exact rdK_flat.1 hcs j u hu) (flatK_one _) (by unfold maxLen; omega) (by
        have : ((l.length + (s :: r).length) + (l.length + (s :: r).length) / 4 + 192) * bytes ≤ 1250192 * 4096 := Nat.mul_le_mul (by omega) hbt
        omega) hB
    exact ⟨v', w', e1, e2, e3⟩
theorem wpList_appK [Inhabited α] {P : Program} {st e : TypeId} {z : Value} {bytes : Nat} (hst : P.underlying st = some (.slice e)) (hin : (P.info? e).map (fun i => (i.zero, i.size, i.bytes)) = some (some z, E.k, bytes)) (hz : z.cells.size = E.k) (hbt : bytes ≤ 4096) (w : World) {ops : Array Oper} {rest : List Oper} {o : Oper} {a : Act} {Q : Exit → Act → World → Prop} (hgd : o.guard = none) (s x : Operand)
    (ho : o.op = .call { callee := .builtin .append, args := #[s, x], argTypes := #[st, st] }) {w0 : World} {v : Value} {l : List α} (hs : a.eval s = v) (hb : Below w0.heap.size w0 w) (hown : RowK E e w0.heap.size w v l) {xv : Value} {ss : List α} (hxv : a.eval x = xv) (hx : SK E w xv ss) (hn : l.length + ss.length ≤ 1000000)
    (hK : ∀ v' w', RowK E e w0.heap.size w' v' (l ++ ss) → Below w0.heap.size w0 w' → w.grownBy w' v.ownBlock → wpList P ops Q rest (a.put o.dst v') w') : wpList P ops Q (o :: rest) a w := by
  refine wpList_plain hgd fun K' hK' => ?_
  obtain ⟨v', w', hrun, r1, r2⟩ := run_appK hst hin hz hbt o.type hown hx hn hb.size
  unfold Oper.wp
  simp [execOp, ho, resolve, invoke, builtin, hs, hxv, hrun, Result.andThen]
  exact hK' _ _ (hK v' w' r1 (below_appK hb hb.size hown r2) r2)
theorem step_appK [Inhabited α] {P : Program} {st e : TypeId} {z : Value} {bytes : Nat} (hst : P.underlying st = some (.slice e)) (hin : (P.info? e).map (fun i => (i.zero, i.size, i.bytes)) = some (some z, E.k, bytes)) (hz : z.cells.size = E.k) (hbt : bytes ≤ 4096) (w : World) {ops : Array Oper} {o : Oper} {a : Act} {K : Act → World → Prop} {Q : Exit → Act → World → Prop} {F : Prop} (hgd : o.guard = none) (s x : Operand)
    (ho : o.op = .call { callee := .builtin .append, args := #[s, x], argTypes := #[st, st] }) {w0 : World} {v : Value} {l : List α} (hs : a.eval s = v) (hb : Below w0.heap.size w0 w) (hown : RowK E e w0.heap.size w v l) {xv : Value} {ss : List α} (hxv : a.eval x = xv) (hx : SK E w xv ss) (hn : l.length + ss.length ≤ 1000000)
    (hK : ∀ v' w', RowK E e w0.heap.size w' v' (l ++ ss) → Below w0.heap.size w0 w' → w.grownBy w' v.ownBlock → K (a.put o.dst v') w') : if Region.wanted o (yielded ops a.tmps) = true then Oper.wp P o a w K Q else F := by
  have hw : Region.wanted o (yielded ops a.tmps) = true := by simp [Region.wanted, hgd]
  rw [if_pos hw]
  obtain ⟨v', w', hrun, r1, r2⟩ := run_appK hst hin hz hbt o.type hown hx hn hb.size
  unfold Oper.wp
  simp [execOp, ho, resolve, invoke, builtin, hs, hxv, hrun, Result.andThen]
  exact hK v' w' r1 (below_appK hb hb.size hown r2) r2
/-- A block just made of elements reads as them. -/
theorem SK.ofBox [Inhabited α] {w : World} {b : Nat} {cs : Array Value} {t : TypeId} {L : List α} {n cap : Nat} (h : Box w b cs t) (hn : n = L.length) (hl : cs.toList = E.flat L) (hc : n ≤ cap) : SK E w (.slice (some ⟨b, 0, none⟩) n cap) L := by
  subst hn
  refine ⟨_, cap, rfl, hc, .inr ⟨b, 0, rfl, h.lt, rdK_flat.2 fun j u hu => ?_⟩⟩
  rw [Nat.zero_add, h.cell, ← Array.getElem?_toList, hl]
  exact hu
theorem RowK.ofBox {e : TypeId} {w : World} {B b : Nat} {cs : Array Value} {L : List α} {n : Nat} (h : Box w b cs e) (hB : B ≤ b) (hn : n = L.length) (hl : cs.toList = E.flat L) (hm : L.length ≤ 100000) : RowK E e B w (.slice (some ⟨b, 0, none⟩) n n) L := by
  subst hn
  refine ⟨flatK_len _, .inr ⟨b, L.length, cs, rfl, hB, h, Nat.le_refl _, by unfold maxLen; omega, ?_, ?_⟩⟩
  · rw [← Array.length_toList, hl, flatK_len]
  · rw [hl, List.take_of_length_le (by rw [flatK_len]; exact Nat.le_refl _)]
theorem box_not_rowK {e : TypeId} {B : Nat} {w : World} {v : Value} {m : List α} {b : Nat} {cs : Array Value} {t : TypeId} (h : RowK E e B w v m) (hx : Box w b cs t) (ht : t ≠ e) : some b ≠ v.ownBlock := by
  obtain ⟨h1, ⟨h2, _⟩ | ⟨g, cap, cur, hv, hB, hh, r⟩⟩ := h
  · rw [h2]; exact fun h => by cases h
  · rw [hv]
    intro h
    have h' : b = g := by simpa [Value.ownBlock] using h
    subst h'
    exact Box.ne hx hh ht rfl
theorem RowK.grownOther {t : TypeId} {B : Nat} {w w' : World} {v : Value} {m : List α} {row : Option Nat} (h : RowK E t B w v m) (hg : w.grownBy w' row) (hne : ∀ g, v.ownBlock = some g → some g ≠ row) : RowK E t B w' v m := by
  obtain ⟨h1, h2 | ⟨g, cap, cur, hv, hB, hh, r⟩⟩ := h
  · exact ⟨h1, .inl h2⟩
  · exact ⟨h1, .inr ⟨g, cap, cur, hv, hB, (hg.block g (lt_block hh) (hne g (by rw [hv]; rfl))).trans hh, r⟩⟩
/-- The cells of a slice of elements, opened. -/
theorem open_cells [Inhabited α] {P : Program} {H : Type} {enc : TypeId × Value → H} {W : World} {cs : List Value} {x0 : DataW H × List MemPlace} {fuel : Nat} {t e : TypeId} {Ok : α → Prop} (ht : P.underlying t = some (.slice e)) (he : P.cellsOf e = E.k)
    (hel : ∀ (n : Nat) (cs : List Value) (x : DataW H × List MemPlace), DataW.trod enc P W 0 (fun _ => true) true n e cs = some x → ∃ a : α, cs = E.enc a ∧ Ok a)
    (hf : DataW.trod enc P W 0 (fun _ => true) true fuel t cs = some x0) : ∃ a n c l, cs = [.slice a n c] ∧ SK E W (.slice a n c) l ∧ (∀ a ∈ l, Ok a) ∧ l.length ≤ maxLen := by
  rcases open_slice ht hf with ⟨hcs, _⟩ | ⟨x, len, cap, m, n, D, Pl, hcs, _, hl, hm, hmm, _, hall⟩
  · exact ⟨_, _, _, [], hcs, SK.nil _ _ _, fun a h => (by cases h), Nat.zero_le _⟩
  · simp only [if_true] at hmm
    subst hmm
    rw [he] at hall
    have each : ∀ i, i < m → ∃ o : α, Ok o ∧ ∀ j u, (E.enc o)[j]? = some u → W.cell? (x.add (i * E.k + j)) = some u := by
      intro i hi
      obtain ⟨cs', h1, h2⟩ := hall i hi
      obtain ⟨o, rfl, ho⟩ := hel _ _ _ h2
      obtain ⟨_, hlen, hcell⟩ := World.cells?_some h1
      refine ⟨o, ho, fun j u hu => ?_⟩
      have hj : j < E.k := by
        rcases Nat.lt_or_ge j (E.enc o).length with h' | h'
        · rwa [E.len] at h'
        · rw [List.getElem?_eq_none h'] at hu; cases hu
      have := hcell j hj
      rw [add_add] at this
      rw [this]
      rw [List.getElem?_eq_getElem (by rw [E.len]; exact hj)] at hu
      rw [← hu]
      simp [hj, E.len]
    refine ⟨some x, len, m, ?_⟩
    cases hlen : len with
    | zero => exact ⟨[], hlen ▸ hcs, SK.nil _ _ _, fun a h => (by cases h), Nat.zero_le _⟩
    | succ k =>
      obtain ⟨b, off, spot⟩ := x
      have hc0 : ∃ v, W.cell? ((⟨b, off, spot⟩ : Addr).add (0 * E.k + 0)) = some v := by
        obtain ⟨o, _, h⟩ := each 0 (by omega)
        exact ⟨_, h 0 _ (List.getElem?_eq_getElem (by rw [E.len]; exact E.pos))⟩
      obtain ⟨v0, hc0⟩ := hc0
      have hspot : spot = none := by simpa [Addr.add] using World.cell?_spot hc0
      subst hspot
      have hlt : b < W.heap.size := by
        rcases Nat.lt_or_ge b W.heap.size with h' | h'
        · exact h'
        · simp [World.cell?, Addr.add, Array.getElem?_eq_none h'] at hc0
      obtain ⟨F, hF⟩ := choose_lt (α := α) each
      rw [← hlen]
      refine ⟨(List.range len).map F, hcs, ⟨some ⟨b, off, none⟩, m, by simp, by simp; exact hl, .inr ⟨b, off, rfl, hlt, fun i hi j u hu => ?_⟩⟩, fun o ho => ?_, by simp; omega⟩
      · have hi' : i < len := by simpa using hi
        have q : ((List.range len).map F)[i]! = F i := by
          rw [getElem!_pos _ i (by simpa using hi')]
          simp
        rw [q] at hu
        have c0 := (hF i (by omega)).2 j u hu
        rw [add_plain] at c0
        simpa [Nat.add_assoc] using c0
      · obtain ⟨i, hi, rfl⟩ := List.mem_map.1 ho
        have hi' := List.mem_range.1 hi
        exact (hF i (by omega)).1
/-- A slice of elements, opened. -/
theorem open_sk [Inhabited α] {P : Program} {H : Type} {enc : TypeId × Value → H} {W : World} {v : Value} {d : DataW H} {p : List MemPlace} {r : Reach} {b0 : Nat} {t e : TypeId} {Ok : α → Prop} (ht : P.underlying t = some (.slice e)) (he : P.cellsOf e = E.k)
    (hel : ∀ (n : Nat) (cs : List Value) (x : DataW H × List MemPlace), DataW.trod enc P W 0 (fun _ => true) true n e cs = some x → ∃ a : α, cs = E.enc a ∧ Ok a)
    (hv : Value.okWide P W r b0 t v) (h : DataW.Trod enc P W 0 (fun _ => true) true t v d p) : ∃ l, SK E W v l ∧ (∀ a ∈ l, Ok a) ∧ l.length ≤ maxLen := by
  obtain ⟨a, len, cap, rfl⟩ := okWide_slice ht hv
  obtain ⟨fuel, hf⟩ := h
  obtain ⟨a', n', c', l, e1, h1, h2, h3⟩ := open_cells ht he hel hf
  simp [Value.cells] at e1
  obtain ⟨rfl, rfl, rfl⟩ := e1
  exact ⟨l, h1, h2, h3⟩
theorem i64_wf {n : Int} (h : (Lit.int .i64 n).wf = true) : -9223372036854775808 ≤ n ∧ n < 9223372036854775808 := by
  have := bounds_i64 h
  omega
theorem int_cellK {P : Program} {H : Type} {enc : TypeId × Value → H} {w : World} {base : Nat} {spare : Nat → Bool} {held : Bool} {t : TypeId} {k : IntKind} {n : Nat} {c : Value} {x : DataW H × List MemPlace} (ht : P.underlying t = some (.int k)) (h : DataW.trod enc P w base spare held n t [c] = some x) : ∃ N, c = .int k N ∧ (Lit.int k N).wf = true := by
  obtain ⟨N, g1, _, g3⟩ := DataW.trod_int ht h
  simp only [List.cons.injEq, and_true] at g1
  exact ⟨N, g1, g3⟩
/-- A store into a row of one's own: its element i becomes a. -/
theorem RowK.set [Inhabited α] {t : TypeId} {B : Nat} {w : World} {g n c : Nat} {L : List α} (h : RowK E t B w (.slice (some ⟨g, 0, none⟩) n c) L) {i j : Nat} (hi : i < L.length) (hj : j < E.k) {u : Value} {a : α} (ha : E.enc a = (E.enc L[i]!).set j u) : RowK E t B (w.setCell ⟨g, i * E.k + j, none⟩ u) (.slice (some ⟨g, 0, none⟩) n c) (L.set i a) := by
  obtain ⟨h1, ⟨h2, _⟩ | ⟨g', cap, cur, hv, hB, hh, hc, hm, hs, ht⟩⟩ := h
  · cases h2
  injection hv with e1 e2 e3
  injection e1 with e1
  injection e1 with e1
  subst e1 e2 e3
  have hlt : i * E.k + j < L.length * E.k := by
    have : (i + 1) * E.k ≤ L.length * E.k := Nat.mul_le_mul_right _ hi
    rw [Nat.succ_mul] at this
    omega
  unfold RowK
  rw [List.length_set]
  refine ⟨by rw [flatK_len, List.length_set], .inr ⟨g, c, cur.setIfInBounds (i * E.k + j) u, rfl, hB, Box.set hh _ _, hc, hm, by simpa using hs, ?_⟩⟩
  rw [Array.toList_setIfInBounds, List.take_set, ht]
  apply List.ext_getElem?
  intro x
  rcases Nat.lt_or_ge x (L.length * E.k) with hx | hx
  · have hp := E.pos
    have hr : x % E.k < E.k := Nat.mod_lt _ hp
    have hd : x / E.k < L.length := (Nat.div_lt_iff_lt_mul hp).2 hx
    have e : x = x / E.k * E.k + x % E.k := by rw [Nat.mul_comm]; exact (Nat.div_add_mod x E.k).symm
    rw [List.getElem?_set]
    by_cases hxe : i * E.k + j = x
    · rw [if_pos hxe, if_pos (by rw [flatK_len]; omega)]
      rw [← hxe, flatK_at _ _ _ (by rw [List.length_set]; exact hi) hj, getElem!_pos _ i (by rw [List.length_set]; exact hi), List.getElem_set_self, ha, List.getElem?_set_self (by rw [E.len]; exact hj)]
    · rw [if_neg hxe, e, flatK_at _ _ _ hd hr, flatK_at _ _ _ (by rw [List.length_set]; exact hd) hr, getElem!_pos (L.set i a) _ (by rw [List.length_set]; exact hd)]
      by_cases hxi : i = x / E.k
      · subst hxi
        have hjx : j ≠ x % E.k := fun h => hxe (by rw [h]; exact e.symm)
        rw [List.getElem_set_self, ha, List.getElem?_set_ne hjx]
      · rw [List.getElem_set_ne hxi, getElem!_pos L _ hd]
  · rw [List.getElem?_eq_none (by rw [List.length_set, flatK_len]; exact hx), List.getElem?_eq_none (by rw [flatK_len, List.length_set]; exact hx)]
/-- A store into a row of one's own leaves what lay below. -/
theorem RowK.setBelow {t : TypeId} {B : Nat} {w0 w : World} {g n c : Nat} {L : List α} (h : RowK E t B w (.slice (some ⟨g, 0, none⟩) n c) L) (hb : Below B w0 w) (off : Nat) (u : Value) : Below B w0 (w.setCell ⟨g, off, none⟩ u) := by
  obtain ⟨h1, ⟨h2, _⟩ | ⟨g', cap, cur, hv, hB, hh, _⟩⟩ := h
  · cases h2
  injection hv with e1
  injection e1 with e1
  injection e1 with e1
  subst e1
  exact hb.setCell hB _
theorem RowK.block {t : TypeId} {B : Nat} {w : World} {a : Option Addr} {n c : Nat} {L : List α} (h : RowK E t B w (.slice a n c) L) (hn : 0 < n) : ∃ g, a = some ⟨g, 0, none⟩ ∧ B ≤ g ∧ g < w.heap.size ∧ w.frozen? ⟨g, 0, none⟩ = false := by
  obtain ⟨h1, ⟨h2, h3⟩ | ⟨g', cap, cur, hv, hB, hh, _⟩⟩ := h
  · injection h2 with _ e; omega
  injection hv with e1
  exact ⟨g', e1, hB, lt_block hh, Box.free hh 0⟩
theorem RowK.free {t : TypeId} {B : Nat} {w : World} {g n c : Nat} {L : List α} (h : RowK E t B w (.slice (some ⟨g, 0, none⟩) n c) L) (j : Nat) : w.frozen? ⟨g, j, none⟩ = false := by
  obtain ⟨h1, ⟨h2, _⟩ | ⟨g', cap, cur, hv, hB, hh, _⟩⟩ := h
  · cases h2
  injection hv with e1
  injection e1 with e1
  injection e1 with e1
  subst e1
  exact Box.free hh j
end Go.Proofs.YtjphhfgomlchoaaDoor
