/- Lists of uses (three numbers each), and the rows that hold them. -/
import Derived.Test.YtgndlknlahglcaaDoorLayFns
import Derived.Laws.StructEq
import Derived.Deep.AppendLies
import Derived.Carry
import Derived.Maps.Own
import Derived.Maps.OwnOps
import Derived.Maps.OwnSet
import Derived.Handy
namespace Go.Proofs.YtgndlknlahglcaaDoor
open Go.ChangeShapes Go.WideShapes Go.ChangeAt Go.RowKit Go.Maps

/-- The cells of block b from off on read as the picks L. -/
def Rd (w : World) (b off : Nat) (L : List Pk) : Prop :=
  ∀ i, i < L.length → w.cell? ⟨b, off + i * 3, none⟩ = some (.int .i64 (L.getD i zPk).1) ∧ w.cell? ⟨b, off + i * 3 + 1, none⟩ = some (.int .i64 (L.getD i zPk).2.1) ∧ w.cell? ⟨b, off + i * 3 + 2, none⟩ = some (.int .i64 (L.getD i zPk).2.2)
/-- The slice v reads as the picks L. -/
def PS (w : World) (v : Value) (L : List Pk) : Prop :=
  ∃ a cap, v = .slice a L.length cap ∧ (L = [] ∨ ∃ b off, a = some ⟨b, off, none⟩ ∧ b < w.heap.size ∧ Rd w b off L)
theorem PS.below {w w1 : World} {v : Value} {L : List Pk} (h : PS w v L) (hb : Below w.heap.size w w1) : PS w1 v L := by
  obtain ⟨a, cap, hv, h | ⟨b, off, ha, hl, hc⟩⟩ := h
  · exact ⟨a, cap, hv, .inl h⟩
  · exact ⟨a, cap, hv, .inr ⟨b, off, ha, Nat.lt_of_lt_of_le hl hb.size, fun i hi => ⟨(hb.cell hl).trans (hc i hi).1, (hb.cell hl).trans (hc i hi).2.1, (hb.cell hl).trans (hc i hi).2.2⟩⟩⟩
theorem PS.nil (w : World) (a : Option Addr) (cap : Nat) : PS w (.slice a 0 cap) [] := ⟨a, cap, rfl, .inl rfl⟩
theorem lt_block {w : World} {b : Nat} {o : Obj} (h : w.heap[b]? = some o) : b < w.heap.size := (Array.getElem?_eq_some_iff.1 h).1
theorem blk1 (w : World) (a : Obj) {n : Nat} (hn : n = w.heap.size) : (w.alloc a).heap[n]? = some a := by subst hn; exact heap_alloc_new ..
theorem blkS {w : World} {a : Obj} {n : Nat} {o : Obj} (h : w.heap[n]? = some o) : (w.alloc a).heap[n]? = some o := by
  rw [Below.heap_alloc _ _ _ (lt_block h)]; exact h
/-- Block b holds just these cells, none of them frozen. -/
def Box (w : World) (b : Nat) (cs : Array Value) (t : TypeId) : Prop := w.heap[b]? = some (.cells cs t (0, 0))
theorem Box.lt {w : World} {b : Nat} {cs : Array Value} {t : TypeId} (h : Box w b cs t) : b < w.heap.size := lt_block h
theorem Box.below {w w1 : World} {b : Nat} {cs : Array Value} {t : TypeId} (h : Box w b cs t) (hb : Below w.heap.size w w1) : Box w1 b cs t := (hb.block b h.lt).trans h
theorem Box.cell {w : World} {b : Nat} {cs : Array Value} {t : TypeId} (h : Box w b cs t) (j : Nat) : w.cell? ⟨b, j, none⟩ = cs[j]? := by
  unfold World.cell?
  simp [show w.heap[b]? = _ from h]
theorem Box.free {w : World} {b : Nat} {cs : Array Value} {t : TypeId} (h : Box w b cs t) (j : Nat) : w.frozen? ⟨b, j, none⟩ = false := by
  unfold World.frozen?
  simp [show w.heap[b]? = _ from h]
theorem Box.new (w : World) (cs : Array Value) (t : TypeId) {n : Nat} (hn : n = w.heap.size) : Box (w.alloc (.cells cs t)) n cs t := blk1 w _ hn
theorem Box.alloc {w : World} {b : Nat} {cs : Array Value} {t : TypeId} (h : Box w b cs t) (o : Obj) : Box (w.alloc o) b cs t := blkS h
theorem Box.drew {w : World} {b : Nat} {cs : Array Value} {t : TypeId} (h : Box w b cs t) : Box w.drew b cs t := h
theorem Box.set {w : World} {b : Nat} {cs : Array Value} {t : TypeId} (h : Box w b cs t) (j : Nat) (u : Value) : Box (w.setCell ⟨b, j, none⟩ u) b (cs.setIfInBounds j u) t := by
  unfold Box at *
  unfold World.setCell
  simp only
  rw [Array.getElem?_modify, if_pos rfl, h]
  rfl
theorem Box.other {w : World} {b : Nat} {cs : Array Value} {t : TypeId} (h : Box w b cs t) {b' : Nat} (hb : b ≠ b') (j : Nat) (u : Value) : Box (w.setCell ⟨b', j, none⟩ u) b cs t := by
  unfold Box at *
  rw [Below.heap_setCell _ _ _ _ (by simpa using hb)]; exact h

/-- Only block b may differ. -/
structure Only (b : Nat) (w w' : World) : Prop where
  size : w'.heap.size = w.heap.size
  block : ∀ j, j ≠ b → w'.heap[j]? = w.heap[j]?
theorem Only.refl (b : Nat) (w : World) : Only b w w := ⟨rfl, fun _ _ => rfl⟩
theorem Only.set {b : Nat} {w w' : World} (h : Only b w w') (i : Nat) (u : Value) : Only b w (w'.setCell ⟨b, i, none⟩ u) :=
  ⟨by rw [← h.size]; simp, fun j hj => by rw [Below.heap_setCell _ _ _ _ (by simpa using hj)]; exact h.block j hj⟩
theorem Box.only {w w' : World} {b c : Nat} {cs : Array Value} {t : TypeId} (h : Box w c cs t) (hne : c ≠ b) (ho : Only b w w') : Box w' c cs t := (ho.block c hne).trans h
theorem Box.cells3 {w : World} {b : Nat} {x0 x1 x2 : Value} {t : TypeId} (h : Box w b #[x0, x1, x2] t) : (w.cell? ⟨b, 0, none⟩ = some x0 ∧ w.cell? ⟨b, 1, none⟩ = some x1 ∧ w.cell? ⟨b, 2, none⟩ = some x2) ∧ w.frozen? ⟨b, 0, none⟩ = false ∧ w.frozen? ⟨b, 1, none⟩ = false ∧ w.frozen? ⟨b, 2, none⟩ = false := ⟨⟨h.cell 0, h.cell 1, h.cell 2⟩, h.free 0, h.free 1, h.free 2⟩
/-- Block b is stored into, all below b stays. -/
theorem below_set {w W : World} {n b : Nat} (h : Below n w W) (hb : n ≤ b) (j : Nat) (u : Value) : Below n w (W.setCell ⟨b, j, none⟩ u) := h.setCell (by simpa using hb) _

/-- A list of picks as the cells of a row. -/
def flat (m : List Pk) : List Value := m.flatMap fun p => [.int .i64 p.1, .int .i64 p.2.1, .int .i64 p.2.2]
theorem flat_append (a b : List Pk) : flat (a ++ b) = flat a ++ flat b := List.flatMap_append
theorem flat_at (m : List Pk) (i : Nat) (h : i < m.length) : (flat m)[i * 3]? = some (.int .i64 (m.getD i zPk).1) ∧ (flat m)[i * 3 + 1]? = some (.int .i64 (m.getD i zPk).2.1) ∧ (flat m)[i * 3 + 2]? = some (.int .i64 (m.getD i zPk).2.2) := by
  induction m generalizing i with
  | nil => simp at h
  | cons p r ih =>
    cases i with
    | zero => exact ⟨rfl, rfl, rfl⟩
    | succ i =>
      have := ih i (by simpa using h)
      have e1 : (i + 1) * 3 = i * 3 + 1 + 1 + 1 := by omega
      rw [e1]
      exact this
/-- The slice v of picks (of type t) reads as L, and is nobody else's to write; its block is not below B. -/
def Row (t : TypeId) (B : Nat) (w : World) (v : Value) (L : List Pk) : Prop := w.ownsRow B t 3 v L.length (flat L)
theorem Row.nil (t : TypeId) (B : Nat) (w : World) : Row t B w (.slice none 0 0) [] := World.ownsRow_nil w B t 3
theorem row_below {w w1 : World} {B : Nat} {e : TypeId} {size : Nat} {v : Value} {n : Nat} {xs : List Value} (h : w.ownsRow B e size v n xs) (hb : Below w.heap.size w w1) : w1.ownsRow B e size v n xs := by
  obtain ⟨h1, h2 | ⟨g, cap, cur, hv, hB, hh, r⟩⟩ := h
  · exact ⟨h1, .inl h2⟩
  · have hg : g < w.heap.size := (Array.getElem?_eq_some_iff.1 hh).1
    exact ⟨h1, .inr ⟨g, cap, cur, hv, hB, (hb.block g hg).trans hh, r⟩⟩
theorem Row.below {t : TypeId} {B : Nat} {w w1 : World} {v : Value} {m : List Pk} (h : Row t B w v m) (hb : Below w.heap.size w w1) : Row t B w1 v m := row_below h hb
theorem Row.ps {t : TypeId} {B : Nat} {w : World} {v : Value} {m : List Pk} (h : Row t B w v m) : PS w v m := by
  have h0 := h
  obtain ⟨h1, ⟨h2, h3⟩ | ⟨g, cap, cur, hv, hB, hh, r⟩⟩ := h
  · obtain rfl := List.length_eq_zero_iff.1 h3
    exact ⟨_, _, h2, .inl rfl⟩
  · subst hv
    refine ⟨_, cap, rfl, .inr ⟨g, 0, rfl, (Array.getElem?_eq_some_iff.1 hh).1, fun i hi => ?_⟩⟩
    obtain ⟨e1, e2, e3⟩ := flat_at m i hi
    rw [Nat.zero_add]
    exact ⟨(World.ownsRow.cellAt h0 (i * 3) (by omega)).trans e1, (World.ownsRow.cellAt h0 (i * 3 + 1) (by omega)).trans e2, (World.ownsRow.cellAt h0 (i * 3 + 2) (by omega)).trans e3⟩
/-- A new pick lies in a block of its own. -/
theorem tri_new (w : World) (x y z : Int) (t : TypeId) : ∀ j u, ([.int .i64 x, .int .i64 y, .int .i64 z] : List Value)[j]? = some u → (w.alloc (.cells #[.int .i64 x, .int .i64 y, .int .i64 z] t)).cell? ((⟨w.heap.size, 0, none⟩ : Addr).add j) = some u := by
  intro j u h
  match j, h with
  | 0, h => simp at h; subst h; simp [go_sem, Addr.add]
  | 1, h => simp at h; subst h; simp [go_sem, Addr.add]
  | 2, h => simp at h; subst h; simp [go_sem, Addr.add]
theorem tri_one (x y z : Int) : ∀ u ∈ ([.int .i64 x, .int .i64 y, .int .i64 z] : List Value), u.oneCell' = true := by
  intro u hu
  simp at hu
  rcases hu with rfl | rfl | rfl <;> rfl
theorem row_snoc {t : TypeId} {w : World} {B : Nat} {v : Value} {out : List Pk} {x y z : Int} (h : w.ownsRow B t 3 v (out.length + 1) (flat out ++ [.int .i64 x, .int .i64 y, .int .i64 z])) : Row t B w v (out ++ [(x, y, z)]) := by
  unfold Row
  rw [flat_append]
  simpa [flat] using h
theorem below_app {B : Nat} {w wr w1 : World} {t : TypeId} {vo : Value} {nn : Nat} {xs : List Value} {o : Obj} (hnx : Below B w wr) (hB : B ≤ wr.heap.size) (hown : wr.ownsRow B t 3 vo nn xs) (hg : (wr.alloc o).grownBy w1 vo.ownBlock) : Below B w w1 :=
  (hnx.alloc hB _).grown hg (by simp; omega) (fun j hj => (hown.lt j hj).1)

theorem tri_new' (w : World) (x y z : Int) (t : TypeId) {n : Nat} (hn : n = w.heap.size) : ∀ j u, ([.int .i64 x, .int .i64 y, .int .i64 z] : List Value)[j]? = some u → (w.alloc (.cells #[.int .i64 x, .int .i64 y, .int .i64 z] t)).cell? ((⟨n, 0, none⟩ : Addr).add j) = some u := by
  subst hn; exact tri_new w x y z t
theorem info_parts {P : Program} {t : TypeId} {z : Value} {s b : Nat} (h : (P.info? t).map (fun i => (i.zero, i.size, i.bytes)) = some (some z, s, b)) : ∃ i, P.info? t = some i ∧ i.zero = some z ∧ i.size = s ∧ i.bytes = b := by
  cases hi : P.info? t with
  | none => rw [hi] at h; cases h
  | some i =>
    rw [hi] at h
    simp only [Option.map_some, Option.some.injEq, Prod.mk.injEq] at h
    exact ⟨i, rfl, h.1, h.2.1, h.2.2⟩
theorem infoK : (Tryd.prog.info? 35).map (fun i => (i.zero, i.size, i.bytes)) = some (some (.agg #[.int .i64 0, .int .i64 0, .int .i64 0]), 3, 24) := by kernel_rfl
theorem guardK : Tryd.prog.eqGuardType Tryd.prog.depth 35 = false := by kernel_rfl
def eqP (a b : Pk) : Bool := a.1 == b.1 && (a.2.1 == b.2.1 && a.2.2 == b.2.2)
theorem eqP_iff (a b : Pk) : eqP a b = true ↔ a = b := by
  obtain ⟨a0, a1, a2⟩ := a
  obtain ⟨b0, b1, b2⟩ := b
  simp [eqP]
theorem equalK (a b c a' b' c' : Int) (w : World) : (Op.equalIn 10000 35 (.agg #[.int .i64 a, .int .i64 b, .int .i64 c]) (.agg #[.int .i64 a', .int .i64 b', .int .i64 c'])).run Tryd.prog w = .ok (eqP (a, b, c) (a', b', c')) w := by
  have u3 := Tryd.underlying3
  have a3 := Tryd.isAgg3
  have z3 := Tryd.sizeOf3
  have hS : Tryd.prog.underlying 35 = some (.struct (Tryd.prog.fieldsOf 35)) := by kernel_rfl
  have hp : Tryd.prog.stoodInHeld 35 = false := by kernel_rfl
  rw [show (10000 : Nat) = 9999 + 1 from rfl, run_equalIn_agg w 9999 35 _ _ hS hp]
  simp only [Program.fieldsOf, Tryd.underlying35]
  go_simp
  by_cases h1 : a = a' <;> by_cases h2 : b = b' <;> by_cases h3 : c = c' <;> simp [eqP, h1, h2, h3]
theorem eqlK (a b c a' b' c' : Int) (w : World) : (binOp .eql 35 (.agg #[.int .i64 a, .int .i64 b, .int .i64 c]) (.agg #[.int .i64 a', .int .i64 b', .int .i64 c'])).run Tryd.prog w = .ok (.bool (eqP (a, b, c) (a', b', c'))) w := by
  rw [run_eql_struct, equalK]; rfl
/-- A line just made, in block b behind w. -/
structure LN (w W : World) (b : Nat) (cs : Array Value) : Prop where
  x : Box W b cs 35
  bl : Below b w W
  s : b = w.heap.size
theorem LN.set {w W : World} {b : Nat} {cs : Array Value} (h : LN w W b cs) (j : Nat) (u : Value) : LN w (W.setCell ⟨b, j, none⟩ u) b (cs.setIfInBounds j u) := ⟨h.x.set j u, h.bl.setCell (Nat.le_refl _) _, h.s⟩
theorem LN.cells {w W : World} {b : Nat} {cs : Array Value} (h : LN w W b cs) {l : List Value} (hl : cs.toList = l) : ∀ j u, l[j]? = some u → W.cell? ((⟨b, 0, none⟩ : Addr).add j) = some u := by
  subst hl
  intro j u hu
  have e : ((⟨b, 0, none⟩ : Addr).add j) = ⟨b, j, none⟩ := by simp only [Addr.add, Nat.zero_add]; split <;> simp_all
  rw [e, h.x.cell j, ← Array.getElem?_toList]
  exact hu
theorem flat_one (l : List Pk) : ∀ u ∈ flat l, u.oneCell' = true := by
  intro u hu
  simp only [flat, List.mem_flatMap, List.mem_cons, List.not_mem_nil, or_false] at hu
  obtain ⟨p, _, rfl | rfl | rfl⟩ := hu <;> rfl
theorem flat_len (l : List Pk) : (flat l).length = l.length * 3 := by
  induction l with
  | nil => rfl
  | cons p r ih => rw [show flat (p :: r) = [.int .i64 p.1, .int .i64 p.2.1, .int .i64 p.2.2] ++ flat r from rfl, List.length_append, ih]; simp; omega
/-- A block that holds just these uses is a row of one's own. -/
theorem Row.ofBox {w : World} {B b : Nat} {cs : Array Value} {L : List Pk} (h : Box w b cs 35) (hB : B ≤ b) (hl : cs.toList = flat L) (hn : L.length ≤ 100000) : Row 35 B w (.slice (some ⟨b, 0, none⟩) L.length L.length) L := by
  refine ⟨flat_len L, .inr ⟨b, L.length, cs, rfl, hB, h, Nat.le_refl _, by unfold maxLen; omega, ?_, ?_⟩⟩
  · rw [← Array.length_toList, hl, flat_len]
  · rw [hl, List.take_of_length_le (by rw [flat_len]; exact Nat.le_refl _)]
theorem row_app {t : TypeId} {w : World} {B : Nat} {v : Value} {a b : List Pk} {n : Nat} (h : w.ownsRow B t 3 v n (flat a ++ flat b)) (hn : n = a.length + b.length) : Row t B w v (a ++ b) := by
  unfold Row
  rw [flat_append, List.length_append, ← hn]; exact h
theorem own_box {w : World} {B g n size : Nat} {e : TypeId} {xs : List Value} (h : w.ownsRow B e size (.slice (some ⟨g, 0, none⟩) n n) n xs) : Box w g xs.toArray e := by
  obtain ⟨h1, ⟨h2, _⟩ | ⟨g', cap, cur, hv, _, hh, _, _, hs, ht⟩⟩ := h
  · cases h2
  · cases hv
    unfold Box
    rw [hh]
    congr 2
    rw [List.take_of_length_le (by simp [hs])] at ht
    rw [← ht]
/-- Eight unused locations. -/
def zer24 : Array Value := #[.int .i64 0, .int .i64 0, .int .i64 0, .int .i64 0, .int .i64 0, .int .i64 0, .int .i64 0, .int .i64 0, .int .i64 0, .int .i64 0, .int .i64 0, .int .i64 0, .int .i64 0, .int .i64 0, .int .i64 0, .int .i64 0, .int .i64 0, .int .i64 0, .int .i64 0, .int .i64 0, .int .i64 0, .int .i64 0, .int .i64 0, .int .i64 0]
theorem made24 : (madeCells #[.int .i64 0, .int .i64 0, .int .i64 0] 24).toList.toArray = zer24 := by kernel_rfl
set_option maxRecDepth 100000 in
theorem line_any (w : World) : Calls Tryd.prog 35 #[] w fun e w' => e = .returned (.slice (some ⟨w.heap.size, 0, none⟩) 8 8) ∧ LN w w' w.heap.size zer24 := by
  obtain ⟨i0, hi, hz0, hz1, hz2⟩ := info_parts infoK
  go_enter Tryd.func35, Tryd.ntmps35
  go_wp2_with (first | (at_make; refine wpList_make_full _ rfl _ _ 29 rfl w.heap.size 35 i0 _ 3 Tryd.underlying29 hi hz0 hz1 _ _ _ _ 8 rfl rfl rfl rfl (by rw [hz2]; omega) (by unfold maxLen; omega) (Nat.le_refl _) ?_))
  intro w1 hown hg
  have H := Lib.hid (own_box hown)
  rw [made24] at H
  have G := Lib.hid (show Below w.heap.size w w1 from (Below.refl _ _).grown hg (Nat.le_refl _) (fun j hj => by cases hj))
  clear hown hg
  go_wp2_with fail
  go_ret
  exact ⟨rfl, H.out, G.out, rfl⟩
set_option maxRecDepth 100000 in
set_option maxHeartbeats 800000 in
theorem find_any (v : Value) (L : List Pk) (a b c : Int) (w : World) (hl : L.length ≤ 100000) (h : PS w v L) :
    Calls Tryd.prog 15 #[v, .agg #[.int .i64 a, .int .i64 b, .int .i64 c]] w fun e w' => e = .returned (.int .i64 (findL (a, b, c) L 0)) ∧ Below w.heap.size w w' := by
  obtain ⟨ad, cap, rfl, h⟩ := h
  have H := Lib.hid h
  clear h
  have qN := eqlK
  have gP := guardK
  obtain ⟨n, hn⟩ : ∃ n, L.length = n := ⟨_, rfl⟩
  rw [hn]
  rw [hn] at hl
  have HN := Lib.hid hn
  clear hn
  go_enter Tryd.func15, Tryd.ntmps15
  go_wp2
  obtain ⟨W, hW⟩ : ∃ W, w.alloc (.cells #[.int .i64 a, .int .i64 b, .int .i64 c] 35) = W := ⟨_, rfl⟩
  obtain ⟨q, hq⟩ : ∃ q, w.heap.size = q := ⟨_, rfl⟩
  have BW : Hid (Below w.heap.size w W) := Lib.hid (by rw [← hW]; exact below1 _ _)
  have QB : Hid (Box W q #[.int .i64 a, .int .i64 b, .int .i64 c] 35) := Lib.hid (by rw [← hW]; exact Box.new _ _ _ hq.symm)
  rw [hW, hq]
  clear hW hq
  go_loopw [5] (fun iv wr => ∃ k : Nat, k ≤ n ∧ iv = .int .i64 k ∧ findL (a, b, c) L 0 = findL (a, b, c) (L.drop k) k ∧ Below W.heap.size W wr) (fun iv _ => n - (intOf iv).toNat)
  case atStart => exact ⟨0, by omega, rfl, rfl, Below.refl _ _⟩
  case round =>
    obtain ⟨k, hk, rfl, hs, hb⟩ := hrel
    have BB := Lib.hid hb
    have HS := Lib.hid hs
    clear hb hs
    by_cases hlt : k < n
    · rcases H.out with h | ⟨bb, off, rfl, hbl, hc⟩
      · rw [h] at HN; have := HN.out; simp at this; omega
      obtain ⟨c0, c1, c2⟩ := hc k (by rw [HN.out]; exact hlt)
      rw [← (BW.out.trans (BB.out.mono BW.out.size)).cell hbl] at c0 c1 c2
      have HD := Lib.hid (show findL (a, b, c) (L.drop k) k = if L.getD k zPk = (a, b, c) then (k : Int) else findL (a, b, c) (L.drop (k + 1)) (k + 1) by
        have e : L.drop k = L.getD k zPk :: L.drop (k + 1) := by
          rw [List.drop_eq_getElem_cons (by rw [HN.out]; exact hlt), List.getD, List.getElem?_eq_getElem (by rw [HN.out]; exact hlt)]; rfl
        rw [e, findL])
      have HE := Lib.hid (eqP_iff (L.getD k zPk) (a, b, c))
      have e3 : L.getD k zPk = ((L.getD k zPk).1, (L.getD k zPk).2.1, (L.getD k zPk).2.2) := rfl
      rw [e3] at HE HD
      clear hc e3
      obtain ⟨y0, y1, y2⟩ := (QB.out.below BB.out).cells3.1
      generalize (L.getD k zPk).1 = x0 at *
      generalize (L.getD k zPk).2.1 = x1 at *
      generalize (L.getD k zPk).2.2 = x2 at *
      cases he : eqP (x0, x1, x2) (a, b, c) with
      | true =>
        go_wp2
        go_quiet (fail)
        go_wp2
        go_ret
        refine ⟨?_, below_drewN (BW.out.trans (BB.out.mono BW.out.size)) _⟩
        rw [HS.out, HD.out, if_pos (HE.out.1 he)]; rfl
      | false =>
        go_wp2
        go_quiet (fail)
        go_wp2
        go_roundw
        case rel => exact ⟨k + 1, by omega, by go_num, by rw [HS.out, HD.out, if_neg (fun h => by rw [HE.out.2 h] at he; cases he)], below_drewN BB.out _⟩
        case measure => simp [intOf]; omega
    · go_wp2
      go_ret
      refine ⟨?_, BW.out.trans (BB.out.mono BW.out.size)⟩
      rw [HS.out, List.drop_of_length_le (by rw [HN.out]; omega)]; rfl
end Go.Proofs.YtgndlknlahglcaaDoor
