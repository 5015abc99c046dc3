/- Rows of words (also arrays of them), effects of swaps as lists. -/
import Derived.Test.YtjphhfgomlchoaaDoorEnAlike
import Derived.Test.YtjphhfgomlchoaaDoorEnThr
import Derived.Laws.CopyOwn
import Derived.Laws.ResultCell
import Derived.Deep.MidRow
namespace Go.Proofs.YtjphhfgomlchoaaDoor
open Go.ChangeShapes Go.WideShapes Go.ChangeAt Go.RowKit Go.Maps
theorem RowK.otherSet {α : Type} {E : Enc α} {t : TypeId} {B : Nat} {w : World} {v : Value} {m : List α} (h : RowK E t B w v m) {b : Nat} (hne : some b ≠ v.ownBlock) (j : Nat) (u : Value) : RowK E t B (w.setCell ⟨b, j, none⟩ u) v m := by
  obtain ⟨h1, h2 | ⟨g, cap, cur, hv, hB, hh, r⟩⟩ := h
  · exact ⟨h1, .inl h2⟩
  · refine ⟨h1, .inr ⟨g, cap, cur, hv, hB, ?_, r⟩⟩
    have hg : g ≠ b := fun e => hne (by rw [hv, e]; rfl)
    rw [Below.heap_setCell _ _ _ _ (by simpa using hg)]
    exact hh
/-- A word stored into a row. -/
theorem RowK.put3 {t : TypeId} {B : Nat} {w : World} {g n c : Nat} {L : List Wd} (h : RowK wdE t B w (.slice (some ⟨g, 0, none⟩) n c) L) {i : Nat} (hi : i < L.length) (x y z : Int) : RowK wdE t B (((w.setCell ⟨g, i * 3, none⟩ (.int .i64 x)).setCell ⟨g, i * 3 + 1, none⟩ (.int .u32 y)).setCell ⟨g, i * 3 + 2, none⟩ (.int .u32 z)) (.slice (some ⟨g, 0, none⟩) n c) (L.set i (x, y, z)) := by
  obtain ⟨⟨l0, l1, l2⟩, hl⟩ : ∃ y, L[i]! = y := ⟨_, rfl⟩
  have h1 := h.set (i := i) (j := 0) hi (show 0 < 3 by omega) (u := .int .i64 x) (a := (x, l1, l2)) (by rw [hl]; rfl)
  have e1 : (L.set i ((x, l1, l2) : Wd))[i]! = (x, l1, l2) := by rw [getElem!_pos _ i (by simpa using hi)]; simp
  have h2 := h1.set (i := i) (j := 1) (by simpa using hi) (show 1 < 3 by omega) (u := .int .u32 y) (a := (x, y, l2)) (by rw [e1]; rfl)
  rw [List.set_set] at h2
  have e2 : (L.set i ((x, y, l2) : Wd))[i]! = (x, y, l2) := by rw [getElem!_pos _ i (by simpa using hi)]; simp
  have h3 := h2.set (i := i) (j := 2) (by simpa using hi) (show 2 < 3 by omega) (u := .int .u32 z) (a := (x, y, z)) (by rw [e2]; rfl)
  rw [List.set_set] at h3
  exact h3
theorem RowK.put3Below {t : TypeId} {B : Nat} {w0 w : World} {g n c : Nat} {L : List Wd} (h : RowK wdE t B w (.slice (some ⟨g, 0, none⟩) n c) L) (hb : Below B w0 w) (i : Nat) (x y z : Int) : Below B w0 (((w.setCell ⟨g, i * 3, none⟩ (.int .i64 x)).setCell ⟨g, i * 3 + 1, none⟩ (.int .u32 y)).setCell ⟨g, i * 3 + 2, none⟩ (.int .u32 z)) := by
  obtain ⟨h1, ⟨h2, _⟩ | ⟨g', cap, cur, hv, hB, hh, _⟩⟩ := h
  · cases h2
  injection hv with e1
  injection e1 with e1
  injection e1 with e1
  subst e1
  exact ((hb.setCell hB _).setCell hB _).setCell hB _
/-- The cells of a word of a row, and that they are not frozen. -/
theorem RowK.at3 {t : TypeId} {B : Nat} {w : World} {g n c : Nat} {L : List Wd} (h : RowK wdE t B w (.slice (some ⟨g, 0, none⟩) n c) L) {i : Nat} (hi : i < L.length) : (w.cell? ⟨g, i * 3, none⟩ = some (.int .i64 (L[i]!).1) ∧ w.cell? ⟨g, i * 3 + 1, none⟩ = some (.int .u32 (L[i]!).2.1) ∧ w.cell? ⟨g, i * 3 + 2, none⟩ = some (.int .u32 (L[i]!).2.2)) ∧ w.frozen? ⟨g, i * 3, none⟩ = false ∧ w.frozen? ⟨g, i * 3 + 1, none⟩ = false ∧ w.frozen? ⟨g, i * 3 + 2, none⟩ = false := by
  have hs := h.sk
  obtain ⟨a, cap, e, _, hz | ⟨b, off, ha, hl, hc⟩⟩ := hs
  · subst hz; simp at hi
  · injection e with e1 e2 e3
    have := e1.trans ha
    injection this with this
    injection this with e4 e5
    subst e4 e5
    have hc := wd_cells hc hi
    simp only [Nat.zero_add] at hc
    exact ⟨hc, h.free _, h.free _, h.free _⟩
/-- An effect of a swap: where, the new value, whether it is written. -/
abbrev Pt := Int × Int × Bool
def peE : Enc Pt where
  k := 3
  enc p := [.int .u8 p.1, .int .i64 p.2.1, .bool p.2.2]
  len _ := rfl
  one x u hu := by
    simp only [List.mem_cons, List.not_mem_nil, or_false] at hu
    rcases hu with rfl | rfl | rfl <;> rfl
  pos := by decide
def OkPt (p : Pt) : Prop := (0 ≤ p.1 ∧ p.1 < 256) ∧ (-9223372036854775808 ≤ p.2.1 ∧ p.2.1 < 9223372036854775808)
abbrev PTS (w : World) (v : Value) (L : List Pt) : Prop := SK peE w v L
theorem pe_cells {w : World} {b off : Nat} {L : List Pt} (h : RdK peE w b off L) {k : Nat} (hk : k < L.length) : w.cell? ⟨b, off + k * 3, none⟩ = some (.int .u8 (L[k]!).1) ∧ w.cell? ⟨b, off + k * 3 + 1, none⟩ = some (.int .i64 (L[k]!).2.1) ∧ w.cell? ⟨b, off + k * 3 + 2, none⟩ = some (.bool (L[k]!).2.2) :=
  ⟨h k hk 0 _ rfl, h k hk 1 _ rfl, h k hk 2 _ rfl⟩
def Lat (a w : World) : Prop := Below a.heap.size a w
theorem Lat.below {a w w1 : World} (h : Lat a w) (hb : Below w.heap.size w w1) : Lat a w1 := Below.trans h (hb.mono (Below.size h))
theorem Lat.out {a w : World} (h : Lat a w) : Below a.heap.size a w := h
theorem rowne {α β : Type} {E : Enc α} {F : Enc β} {t s : TypeId} {B C : Nat} {w : World} {v u : Value} {L : List α} {M : List β} (h : RowK E t B w v L) (h' : RowK F s C w u M) (hts : t ≠ s) : ∀ g, v.ownBlock = some g → some g ≠ u.ownBlock := by
  intro g hg
  obtain ⟨_, ⟨h2, _⟩ | ⟨g1, cap, cur, hv, hB, hh, r⟩⟩ := h
  · rw [h2] at hg; cases hg
  · rw [hv] at hg
    have e : g1 = g := by simpa [Value.ownBlock] using hg
    subst e
    exact box_not_rowK h' hh hts
/-- Six words as the cells of an array. -/
def Arr6 (cs : Array Value) (W : List Wd) : Prop := cs = (wdE.flat W).toArray ∧ W.length = 6
theorem Arr6.size {cs : Array Value} {W : List Wd} (h : Arr6 cs W) : cs.size = 18 := by rw [h.1, List.size_toArray, flatK_len, h.2]; rfl
theorem Arr6.one {cs : Array Value} {W : List Wd} (h : Arr6 cs W) : cs.all (·.oneCell') = true := by
  rw [Array.all_eq_true_iff_forall_mem]
  intro v hv
  rw [h.1] at hv
  exact flatK_one W v (by simpa using hv)
theorem infoA : (Tryd.prog.info? 40).map (·.size) = some 18 := by kernel_rfl
def zA : Array Value := (wdE.flat (List.replicate 6 (0, 0, 0))).toArray
theorem zeroA (w : World) : (zeroValue 40).run Tryd.prog w = .ok (.agg zA) w := by kernel_rfl
theorem zA_arr : Arr6 zA (List.replicate 6 (0, 0, 0)) := ⟨rfl, rfl⟩
theorem box_range {w : World} {b : Nat} {t : TypeId} {lc : List Value} (h : Box w b lc.toArray t) : w.rangeAt b 0 lc := by
  intro j v hv
  rw [Nat.zero_add, h.cell]
  simpa using hv
theorem Box.row {w : World} {b c : Nat} {cs ds : Array Value} {t : TypeId} (h : Box w b cs t) (hne : b ≠ c) : Box (w.setRow c ds) b cs t := (setRow_other w c b ds hne).trans h
theorem Box.rowSame {w : World} {b : Nat} {cs ds : Array Value} {t : TypeId} (h : Box w b cs t) : Box (w.setRow b ds) b ds t := setRow_heap w b cs ds t (0, 0) h
theorem below_row {B b : Nat} {w w1 : World} (h : Below B w w1) (hb : B ≤ b) (cs : Array Value) : Below B w (w1.setRow b cs) := below_setRow h hb cs
theorem wpList_loadA {ops : Array Oper} {rest : List Oper} {d k : Nat} {ty : TypeId} {pos : String} {after : Array _} {a : Act} {w : World} {Q : Exit → Act → World → Prop} (g : Nat) (cs : Array Value) (t : TypeId)
    (hx : a.eval (.tmp k) = .pointer (some ⟨g, 0, none⟩)) (hg : Box w g cs t) (hs : cs.size = 18) (h : wpList Tryd.prog ops Q rest (a.put (some d) (.agg cs)) w) :
    wpList Tryd.prog ops Q (⟨some d, .load 40 (.tmp k), ty, pos, after, none⟩ :: rest) a w :=
  wpList_load_row rfl 40 (.tmp k) rfl g hx t cs (0, 0) _ hg Tryd.underlying40 rfl (by rw [hs]; exact infoA) h
theorem wpList_storeA {ops : Array Oper} {rest : List Oper} {p k : Nat} {ty : TypeId} {pos : String} {after : Array _} {a : Act} {w : World} {Q : Exit → Act → World → Prop} (g : Nat) (cs old : Array Value) (t : TypeId)
    (hx : a.eval (.tmp p) = .pointer (some ⟨g, 0, none⟩)) (hy : a.eval (.tmp k) = .agg cs) (hg : Box w g old t) (ho : old.size = 18) (hs : cs.size = 18) (h1 : cs.all (·.oneCell') = true) (h : wpList Tryd.prog ops Q rest (a.put none undef) (w.setRow g cs)) :
    wpList Tryd.prog ops Q (⟨none, .store 40 (.tmp p) (.tmp k), ty, pos, after, none⟩ :: rest) a w :=
  wpList_store_row rfl 40 (.tmp p) (.tmp k) rfl g cs hx hy t old hg (by rw [hs]; exact infoA) (ho.trans hs.symm) h1 h
theorem results_tmp_cell {fn : Func} {p u : Tmp} {ty : TypeId} (h : fn.results = #[.tmp u, .cell p ty]) (tmps : Array Value) (P : Program) (w : World) :
    (results fn tmps).run P w = ((asAddr (tmps.getD p undef)).run P w).andThen fun a w₁ => ((loadVar ty a).run P w₁).andThen fun v w₂ => .ok (.tuple #[tmps.getD u undef, v]) w₂ := by
  simp only [results, h]
  simp [Sem.run_bind, Result.andThen]
theorem RowK.box6 {B : Nat} {w : World} {g : Nat} {W : List Wd} (h : RowK wdE 40 B w (.slice (some ⟨g, 0, none⟩) 6 6) W) (h6 : W.length = 6) : Box w g (wdE.flat W).toArray 40 := by
  obtain ⟨h1, ⟨h2, _⟩ | ⟨g', cap, cur, hv, hB, hh, hle, hmax, hs, ht⟩⟩ := h
  · cases h2
  injection hv with e1 e2 e3
  injection e1 with e1
  injection e1 with e1
  subst e1 e3
  have hl : (wdE.flat W).length = 18 := by rw [flatK_len, h6]; rfl
  have : cur = (wdE.flat W).toArray := by
    apply Array.ext'
    rw [← ht, List.take_of_length_le (by rw [Array.length_toList, hs, h6]; exact Nat.le_refl _)]
  rw [← this]
  exact hh
theorem row_new {α : Type} {E : Enc α} {t : TypeId} {B b : Nat} {w : World} {v : Value} {L : List α} (h : RowK E t B w v L) (hb : w.heap.size ≤ b) : some b ≠ v.ownBlock := by
  obtain ⟨h1, ⟨h2, _⟩ | ⟨g, cap, cur, hv, hB, hh, r⟩⟩ := h
  · rw [h2]; exact fun h => by cases h
  · rw [hv]
    intro h
    have h' : b = g := by simpa [Value.ownBlock] using h
    have := lt_block hh
    omega
theorem row_row {α : Type} {E : Enc α} {t : TypeId} {B b : Nat} {w : World} {v : Value} {L : List α} {ds : Array Value} (h : RowK E t B w v L) (hne : some b ≠ v.ownBlock) : RowK E t B (w.setRow b ds) v L := by
  obtain ⟨h1, h2 | ⟨g, cap, cur, hv, hB, hh, r⟩⟩ := h
  · exact ⟨h1, .inl h2⟩
  · have hg : g ≠ b := fun e => hne (by rw [hv, e]; rfl)
    exact ⟨h1, .inr ⟨g, cap, cur, hv, hB, (setRow_other w b g ds hg).trans hh, r⟩⟩
theorem six {W : List Wd} (h : W.length = 6) : ∃ a b c d e f, W = [a, b, c, d, e, f] := by
  match W, h with
  | [a, b, c, d, e, f], _ => exact ⟨a, b, c, d, e, f, rfl⟩
def wd6 (a b c d e f : Wd) : Value := .agg #[.int .i64 a.1, .int .u32 a.2.1, .int .u32 a.2.2, .int .i64 b.1, .int .u32 b.2.1, .int .u32 b.2.2, .int .i64 c.1, .int .u32 c.2.1, .int .u32 c.2.2, .int .i64 d.1, .int .u32 d.2.1, .int .u32 d.2.2, .int .i64 e.1, .int .u32 e.2.1, .int .u32 e.2.2, .int .i64 f.1, .int .u32 f.2.1, .int .u32 f.2.2]
/-- What made answers. -/
def MadeOut (W : List Wd) (P : List Pt) (w : World) (e : Ending) (w' : World) : Prop := ∃ u ds, e = .returned (.tuple #[u, .agg ds]) ∧ Arr6 ds (madeL W P).2 ∧ ES w' u (madeL W P).1 ∧ Below w.heap.size w w'
theorem made_end {W : List Wd} {P : List Pt} {w W1 : World} {a : Act} (g : Nat) (u : Value) (ds : Array Value) (hd : a.defers = []) (hp : a.tmps.getD 5 undef = .pointer (some ⟨g, 0, none⟩)) (hu : a.tmps.getD 4 undef = u) (hB : Box W1 g ds 40) (hA : Arr6 ds (madeL W P).2) (hr : ES W1 u (madeL W P).1) (hb : Below w.heap.size w W1) : bodyPost Tryd.prog Tryd.f21 (MadeOut W P w) Exit.ret a W1 := by
  refine bodyPost_ret (v := .tuple #[u, .agg ds]) ?_ hd ⟨u, ds, rfl, hA, hr, hb⟩
  rw [results_tmp_cell (p := 5) (u := 4) (ty := 40) rfl a.tmps Tryd.prog W1, hp, hu]
  simp only [asAddr, Sem.run_pure, Result.andThen_ok, run_loadVar_row W1 g 40 40 ds (0, 0) _ hB Tryd.underlying40 rfl (by rw [hA.size]; exact infoA)]
end Go.Proofs.YtjphhfgomlchoaaDoor
