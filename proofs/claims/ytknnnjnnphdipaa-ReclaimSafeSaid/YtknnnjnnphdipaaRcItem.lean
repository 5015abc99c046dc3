/- Items (a block, its birth, its retirement) as triples, slices of them, and bags. -/
import Derived.Test.YtknnnjnnphdipaaRcBase
import Derived.Laws.Rows
import Derived.Laws.Tables
import Derived.Laws.ResultCell
import Derived.Deep.DeepAppendWide
namespace Go.Proofs.Ytknnnjnnphdipaa
open Go.ChangeShapes Go.WideShapes Go.ChangeAt Go.RowKit Go.Maps

abbrev It := Int × Int × Int
def zIt : It := (0, 0, 0)
def itV (x : It) : Value := .agg #[.int .i64 x.1, .int .i64 x.2.1, .int .i64 x.2.2]
/-- The cells of block b from off on read as the items L. -/
def Rd3 (w : World) (b off : Nat) (L : List It) : Prop :=
  ∀ i, i < L.length → w.cell? ⟨b, off + i * 3, none⟩ = some (.int .i64 (L.getD i zIt).1) ∧ w.cell? ⟨b, off + i * 3 + 1, none⟩ = some (.int .i64 (L.getD i zIt).2.1) ∧ w.cell? ⟨b, off + i * 3 + 2, none⟩ = some (.int .i64 (L.getD i zIt).2.2)
/-- The slice v reads as the items L. -/
def PS (w : World) (v : Value) (L : List It) : Prop :=
  ∃ a cap, v = .slice a L.length cap ∧ L.length ≤ cap ∧ (L = [] ∨ ∃ b off, a = some ⟨b, off, none⟩ ∧ b < w.heap.size ∧ Rd3 w b off L)
theorem PS.below {w w1 : World} {v : Value} {L : List It} (h : PS w v L) (hb : Below w.heap.size w w1) : PS w1 v L := by
  obtain ⟨a, cap, hv, hcap, h | ⟨b, off, ha, hl, hc⟩⟩ := h
  · exact ⟨a, cap, hv, hcap, .inl h⟩
  · exact ⟨a, cap, hv, hcap, .inr ⟨b, off, ha, Nat.lt_of_lt_of_le hl hb.size, fun i hi => ⟨(hb.cell hl).trans (hc i hi).1, (hb.cell hl).trans (hc i hi).2.1, (hb.cell hl).trans (hc i hi).2.2⟩⟩⟩
theorem PS.nil (w : World) (a : Option Addr) (cap : Nat) : PS w (.slice a 0 cap) [] := ⟨a, cap, rfl, Nat.zero_le _, .inl rfl⟩
theorem PS.form {w : World} {v : Value} {L : List It} (h : PS w v L) : ∃ a cap, v = .slice a L.length cap := by
  obtain ⟨a, cap, e, _⟩ := h; exact ⟨a, cap, e⟩
theorem PS.addr {w : World} {a : Option Addr} {n c k : Nat} {L : List It} (h : PS w (.slice a n c) L) (hk : k < n) : ∃ b off, a = some ⟨b, off, none⟩ ∧ b < w.heap.size ∧ ∀ i, i < n → w.cell? ⟨b, off + i * 3, none⟩ = some (.int .i64 (L.getD i zIt).1) ∧ w.cell? ⟨b, off + i * 3 + 1, none⟩ = some (.int .i64 (L.getD i zIt).2.1) ∧ w.cell? ⟨b, off + i * 3 + 2, none⟩ = some (.int .i64 (L.getD i zIt).2.2) := by
  obtain ⟨a', c', e, _, h⟩ := h
  injection e with e1 e2 e3
  subst e1 e2 e3
  rcases h with h | ⟨b, off, h1, h2, h3⟩
  · subst h; simp at hk
  · exact ⟨b, off, h1, h2, h3⟩
theorem IS.form {w : World} {v : Value} {L : List Int} (h : IS w v L) : ∃ a cap, v = .slice a L.length cap := by
  obtain ⟨a, cap, e, _⟩ := h; exact ⟨a, cap, e⟩
theorem IS.addr {w : World} {a : Option Addr} {n c k : Nat} {L : List Int} (h : IS w (.slice a n c) L) (hk : k < n) : ∃ b off, a = some ⟨b, off, none⟩ ∧ b < w.heap.size ∧ ∀ i, i < n → w.cell? ⟨b, off + i, none⟩ = some (.int .i64 (L.getD i 0)) := by
  obtain ⟨a', c', e, _, h⟩ := h
  injection e with e1 e2 e3
  subst e1 e2 e3
  rcases h with h | ⟨b, off, h1, h2, h3⟩
  · subst h; simp at hk
  · exact ⟨b, off, h1, h2, h3⟩
theorem take_succ_getD3 (L : List It) {k : Nat} (h : k < L.length) : L.take (k + 1) = L.take k ++ [L.getD k zIt] := by
  rw [List.take_succ_eq_append_getElem h, List.getD, List.getElem?_eq_getElem h]; rfl
theorem getD_mem3 {L : List It} {k : Nat} (h : k < L.length) : L.getD k zIt ∈ L := by
  rw [List.getD, List.getElem?_eq_getElem h]; exact List.getElem_mem _
/-- A list of items as the cells of a row. -/
def flat3 (m : List It) : List Value := m.flatMap fun p => [.int .i64 p.1, .int .i64 p.2.1, .int .i64 p.2.2]
theorem flat3_append (a b : List It) : flat3 (a ++ b) = flat3 a ++ flat3 b := List.flatMap_append
theorem flat3_at (m : List It) (i : Nat) (h : i < m.length) : (flat3 m)[i * 3]? = some (.int .i64 (m.getD i zIt).1) ∧ (flat3 m)[i * 3 + 1]? = some (.int .i64 (m.getD i zIt).2.1) ∧ (flat3 m)[i * 3 + 2]? = some (.int .i64 (m.getD i zIt).2.2) := by
  induction m generalizing i with
  | nil => simp at h
  | cons p r ih =>
    cases i with
    | zero => exact ⟨rfl, rfl, rfl⟩
    | succ i =>
      have := ih i (by simpa using h)
      have e1 : (i + 1) * 3 = i * 3 + 1 + 1 + 1 := by omega
      rw [e1]
      exact this
theorem flat3_one (l : List It) : ∀ u ∈ flat3 l, u.oneCell' = true := by
  intro u hu
  simp only [flat3, List.mem_flatMap, List.mem_cons, List.not_mem_nil, or_false] at hu
  obtain ⟨p, _, rfl | rfl | rfl⟩ := hu <;> rfl
theorem flat3_len (l : List It) : (flat3 l).length = l.length * 3 := by
  induction l with
  | nil => rfl
  | cons p r ih => rw [show flat3 (p :: r) = [.int .i64 p.1, .int .i64 p.2.1, .int .i64 p.2.2] ++ flat3 r from rfl, List.length_append, ih]; simp; omega
/-- The slice v of items (of type t) reads as L, and is nobody else's to write; its block is not below B. -/
def Row3 (t : TypeId) (B : Nat) (w : World) (v : Value) (L : List It) : Prop := w.ownsRow B t 3 v L.length (flat3 L)
theorem Row3.nil (t : TypeId) (B : Nat) (w : World) : Row3 t B w (.slice none 0 0) [] := World.ownsRow_nil w B t 3
theorem Row3.below {t : TypeId} {B : Nat} {w w1 : World} {v : Value} {m : List It} (h : Row3 t B w v m) (hb : Below w.heap.size w w1) : Row3 t B w1 v m := row_below h hb
theorem Row3.mono {t : TypeId} {B B' : Nat} {w : World} {v : Value} {m : List It} (h : Row3 t B w v m) (hB : B' ≤ B) : Row3 t B' w v m := by
  obtain ⟨h1, h2 | ⟨g, cap, cur, hv, hb, r⟩⟩ := h
  · exact ⟨h1, .inl h2⟩
  · exact ⟨h1, .inr ⟨g, cap, cur, hv, Nat.le_trans hB hb, r⟩⟩
theorem Row3.ps {t : TypeId} {B : Nat} {w : World} {v : Value} {m : List It} (h : Row3 t B w v m) : PS w v m := by
  have h0 := h
  obtain ⟨h1, ⟨h2, h3⟩ | ⟨g, cap, cur, hv, hB, hh, hc, r⟩⟩ := h
  · obtain rfl := List.length_eq_zero_iff.1 h3
    exact ⟨_, _, h2, Nat.le_refl _, .inl rfl⟩
  · subst hv
    refine ⟨_, cap, rfl, hc, .inr ⟨g, 0, rfl, (Array.getElem?_eq_some_iff.1 hh).1, fun i hi => ?_⟩⟩
    obtain ⟨e1, e2, e3⟩ := flat3_at m i hi
    rw [Nat.zero_add]
    exact ⟨(World.ownsRow.cellAt h0 (i * 3) (by omega)).trans e1, (World.ownsRow.cellAt h0 (i * 3 + 1) (by omega)).trans e2, (World.ownsRow.cellAt h0 (i * 3 + 2) (by omega)).trans e3⟩
theorem Row3.form {t : TypeId} {B : Nat} {w : World} {v : Value} {m : List It} (h : Row3 t B w v m) : ∃ a cap, v = .slice a m.length cap := h.ps.form
theorem infoT : (Try.prog.info? 26).map (fun i => (i.zero, i.size, i.bytes)) = some (some (.agg #[.int .i64 0, .int .i64 0, .int .i64 0]), 3, 24) := by kernel_rfl
theorem infoR : (Try.prog.info? 35).map (fun i => (i.zero, i.size, i.bytes)) = some (some (.agg #[.int .i64 0, .int .i64 0, .int .i64 0]), 3, 24) := by kernel_rfl
theorem below_app3 {B : Nat} {w wr w1 : World} {vo : Value} {nn size : Nat} {xs : List Value} (hnx : Below B w wr) (hB : B ≤ wr.heap.size) {e : TypeId} (hown : wr.ownsRow B e size vo nn xs) (hg : wr.grownBy w1 vo.ownBlock) : Below B w w1 :=
  hnx.grown hg hB (fun j hj => (hown.lt j hj).1)
theorem flat3_cells {w : World} {b off : Nat} {L : List It} (h : Rd3 w b off L) : ∀ j u, (flat3 L)[j]? = some u → w.cell? ⟨b, off + j, none⟩ = some u := by
  intro j u hu
  have hj : j < L.length * 3 := by
    rcases Nat.lt_or_ge j (flat3 L).length with h' | h'
    · rwa [flat3_len] at h'
    · rw [List.getElem?_eq_none h'] at hu; cases hu
  obtain ⟨i, r, e, hr⟩ : ∃ i r, j = i * 3 + r ∧ r < 3 := ⟨j / 3, j % 3, by omega, by omega⟩
  have hi : i < L.length := by omega
  obtain ⟨c0, c1, c2⟩ := h i hi
  obtain ⟨f0, f1, f2⟩ := flat3_at L i hi
  match r, hr with
  | 0, _ => subst e; rw [Nat.add_zero] at hu ⊢; rw [f0] at hu; cases hu; exact c0
  | 1, _ => subst e; rw [f1] at hu; cases hu; rw [← Nat.add_assoc]; exact c1
  | 2, _ => subst e; rw [f2] at hu; cases hu; rw [← Nat.add_assoc]; exact c2
/-- append of the items ss onto a row of one's own. -/
theorem run_app3 {st e : TypeId} (hst : Try.prog.underlying st = some (.slice e)) (hin : (Try.prog.info? e).map (fun i => (i.zero, i.size, i.bytes)) = some (some (.agg #[.int .i64 0, .int .i64 0, .int .i64 0]), 3, 24)) {w : World} {B : Nat} {v : Value} {l : List It} (ty : TypeId) (hown : Row3 e B w v l) {x : Value} {ss : List It} (hx : PS w x ss) (hn : l.length + ss.length ≤ 1000000) (hB : B ≤ w.heap.size) :
    ∃ v' w', (Builtin.append_ #[st, st] ty #[v, x]).run Try.prog w = .ok v' w' ∧ Row3 e B w' v' (l ++ ss) ∧ w.grownBy w' v.ownBlock := by
  obtain ⟨i, hi, hz, h1, h2⟩ := info_parts hin
  obtain ⟨a, c, rfl, hcap, hc⟩ := hx
  unfold Row3 at *
  rw [flat3_append, List.length_append]
  cases ss with
  | nil =>
    have hsrc : Src Try.prog i.size st (.slice a 0 c) 0 [] w := by
      cases a with
      | none => exact Src.ofNil w hst c
      | some a => exact Src.ofSlice w hst a 0 c [] (by simp) (fun j u h => by simp at h) (fun u h => by cases h)
    obtain ⟨base, sc', hv, hle⟩ : ∃ base sc', v = .slice base l.length sc' ∧ l.length ≤ sc' := by
      obtain ⟨_, ⟨e1, e2⟩ | ⟨g, cap, cur, e1, _, _, hle, _⟩⟩ := hown
      · exact ⟨_, _, by rw [e2]; exact e1, by omega⟩
      · exact ⟨_, _, e1, hle⟩
    subst hv
    have hr := run_append_nothing w st st ty e i hst hi base l.length sc' hle (.slice a 0 c) hsrc
    exact ⟨_, _, hr, by simpa [flat3] using hown, World.grownBy.refl _ _⟩
  | cons s r =>
    rcases hc with hc | ⟨b, o, rfl, hlt, hcs⟩
    · cases hc
    obtain ⟨v', w', e1, e2, e3, _⟩ := run_append_own_wide w B st ty e i _ 3 24 hst hi hz h1 h2 rfl (by decide) v l.length (flat3 l) hown ⟨b, o, none⟩ (s :: r).length c (flat3 (s :: r)) (flat3_len _)
      (fun j u hu => by rw [addr_add]; exact flat3_cells hcs j u hu) (flat3_one _) (by unfold maxLen; omega) (by omega) hB
    exact ⟨v', w', e1, e2, e3⟩
theorem wpList_app3 {st e : TypeId} (hst : Try.prog.underlying st = some (.slice e)) (hin : (Try.prog.info? e).map (fun i => (i.zero, i.size, i.bytes)) = some (some (.agg #[.int .i64 0, .int .i64 0, .int .i64 0]), 3, 24)) (w : World) {ops : Array Oper} {rest : List Oper} {o : Oper} {a : Act} {Q : Exit → Act → World → Prop} (hgd : o.guard = none) (s x : Operand)
    (ho : o.op = .call { callee := .builtin .append, args := #[s, x], argTypes := #[st, st] }) {w0 : World} {v : Value} {l : List It} (hs : a.eval s = v) (hb : Below w0.heap.size w0 w) (hown : Row3 e w0.heap.size w v l) {xv : Value} {ss : List It} (hxv : a.eval x = xv) (hx : PS w xv ss) (hn : l.length + ss.length ≤ 1000000)
    (hK : ∀ v' w', Row3 e w0.heap.size w' v' (l ++ ss) → Below w0.heap.size w0 w' → w.grownBy w' v.ownBlock → wpList Try.prog ops Q rest (a.put o.dst v') w') : wpList Try.prog ops Q (o :: rest) a w := by
  refine wpList_plain hgd fun K' hK' => ?_
  obtain ⟨v', w', hrun, r1, r2⟩ := run_app3 hst hin o.type hown hx hn hb.size
  unfold Oper.wp
  simp [execOp, ho, resolve, invoke, builtin, hs, hxv, hrun, Result.andThen]
  exact hK' _ _ (hK v' w' r1 (below_app3 hb hb.size hown r2) r2)
theorem PS.ofBox {w : World} {b : Nat} {cs : Array Value} {t : TypeId} {L : List It} {n cap : Nat} (h : Box w b cs t) (hn : n = L.length) (hl : cs.toList = flat3 L) (hc : n ≤ cap) : PS w (.slice (some ⟨b, 0, none⟩) n cap) L := by
  subst hn
  refine ⟨_, cap, rfl, hc, .inr ⟨b, 0, rfl, h.lt, fun i hi => ?_⟩⟩
  obtain ⟨e1, e2, e3⟩ := flat3_at L i hi
  simp only [Nat.zero_add]
  rw [h.cell, h.cell, h.cell, ← Array.getElem?_toList, ← Array.getElem?_toList, ← Array.getElem?_toList, hl]
  exact ⟨e1, e2, e3⟩
theorem Row3.ofBox {e : TypeId} {w : World} {B b : Nat} {cs : Array Value} {L : List It} {n : Nat} (h : Box w b cs e) (hB : B ≤ b) (hn : n = L.length) (hl : cs.toList = flat3 L) (hm : L.length ≤ 100000) : Row3 e B w (.slice (some ⟨b, 0, none⟩) n n) L := by
  subst hn
  refine ⟨flat3_len _, .inr ⟨b, L.length, cs, rfl, hB, h, Nat.le_refl _, by unfold maxLen; omega, ?_, ?_⟩⟩
  · rw [← Array.length_toList, hl, flat3_len]
  · rw [hl, List.take_of_length_le (by rw [flat3_len]; exact Nat.le_refl _)]
/-- The cells cs are a bag of the items L. -/
structure BV (cs : Array Value) (L : List It) : Prop where
  size : cs.size = 193
  at_ : ∀ i, i < L.length → cs[i * 3]? = some (.int .i64 (L.getD i zIt).1) ∧ cs[i * 3 + 1]? = some (.int .i64 (L.getD i zIt).2.1) ∧ cs[i * 3 + 2]? = some (.int .i64 (L.getD i zIt).2.2)
  count : cs[192]? = some (.int .i64 L.length)
  len : L.length ≤ 64
  one : cs.all (·.oneCell') = true
theorem infoBag : (Try.prog.info? 29).map (·.size) = some 193 := by kernel_rfl
theorem BV.info {cs : Array Value} {L : List It} (h : BV cs L) : (Try.prog.info? 29).map (·.size) = some cs.size := by rw [h.size]; exact infoBag
/-- The load of a bag. -/
theorem BV.load {cs : Array Value} {L : List It} (h : BV cs L) {w : World} {b : Nat} {t : TypeId} (hb : Box w b cs t) : (Instr.loadAt 29 (.pointer (some ⟨b, 0, none⟩))).run Try.prog w = .ok (.agg cs) w := by
  simp only [Instr.loadAt, Instr.sureAddr, Sem.run_bind, Sem.run_pure, Result.andThen_ok, run_loadVar_row w b t 29 cs (0, 0) _ hb Try.underlying29 rfl h.info]
theorem BV.store {cs old : Array Value} {L : List It} (h : BV cs L) {w : World} {b : Nat} {t : TypeId} (hb : Box w b old t) (ho : old.size = 193) : (Instr.storeAt 29 (.pointer (some ⟨b, 0, none⟩)) (.agg cs)).run Try.prog w = .ok () (w.setRow b cs) := by
  simp only [Instr.storeAt, Instr.sureAddr, Sem.run_bind, Sem.run_pure, Result.andThen_ok, run_storeVar_row w b t 29 old cs hb h.info (ho.trans h.size.symm) h.one]
end Go.Proofs.Ytknnnjnnphdipaa
