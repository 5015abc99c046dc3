/- One line: what parseLine of package sched answers at every string. -/
import Derived.Test.YtpgcnejofnhhfaaDoorBox
namespace Go.Proofs.YtpgcnejofnhhfaaDoor
open Go.ChangeShapes Go.WideShapes Go.ChangeAt Go.RowKit

def valO (s : ByteArray) : Option Int := match Lib.parseIntB 32 s.data.toList with
  | .ok v => some v
  | _ => none
theorem valO_ok {s : ByteArray} {v : Int} (h : Lib.parseIntB 32 s.data.toList = .ok v) : valO s = some v := by unfold valO; rw [h]
theorem valO_no {s : ByteArray} (h : ∀ v, Lib.parseIntB 32 s.data.toList ≠ .ok v) : valO s = none := by
  unfold valO
  cases hp : Lib.parseIntB 32 s.data.toList
  · exact absurd hp (h _)
  · rfl
  · rfl
def pkV (p : Pk) : Value := .agg #[.int .i64 p.1, .int .i64 p.2.1, .int .i64 p.2.2]
/-- The pick of a line with well-formed numbers, and what is wrong with it. -/
def pickL (k : Int) (t c : Option Int) : Pk × Int := match t, c with
  | some t, some c => if checkL (k, t, c) = 0 then ((k, t, c), 0) else (zPk, 3)
  | _, _ => (zPk, 3)
/-- The pick of a line, and what is wrong with it. -/
def lineL (s : ByteArray) : Pk × Int := match wordsB s with
  | [] => (zPk, 5)
  | h :: ns => match kindL h with
    | none => (zPk, 5)
    | some k => if (ns.length : Int) = manyL k ∧ allCan ns = true then
        pickL k (if k = 2 then some 0 else valO (ns.getD 0 eB)) (if k = 1 then some 0 else valO (ns.getD (ns.length - 1) eB)) else (zPk, 5)
def LineP (s : ByteArray) (w : World) (e : Ending) (w' : World) : Prop := e = .returned (.tuple #[pkV (lineL s).1, .int .i64 (lineL s).2]) ∧ Below w.heap.size w w'
theorem LineP.mk' {s : ByteArray} {w w' : World} {p : Pk} {x : Int} {e : Ending} (h : lineL s = (p, x)) (he : e = .returned (.tuple #[.agg #[.int .i64 p.1, .int .i64 p.2.1, .int .i64 p.2.2], .int .i64 x])) (hb : Below w.heap.size w w') : LineP s w e w' := by
  refine ⟨?_, hb⟩
  rw [h, he]; rfl

/-- The boxes of parseLine: the result, the words. -/
structure LIn (w : World) (b1 b2 : Nat) (ws : List ByteArray) (W : World) : Prop where
  r : Box W b1 #[.int .i64 0, .int .i64 0, .int .i64 0] 35
  lt : b2 < W.heap.size
  ne : b1 < b2
  c : ∀ i, i < ws.length → W.cell? ⟨b2, i, none⟩ = some (.string (ws.getD i eB))
  g : Gl W
  b : Below b1 w W
  h9 : 9 ≤ b1
theorem LIn.below {w W W' : World} {b1 b2 : Nat} {ws : List ByteArray} (h : LIn w b1 b2 ws W) (hb : Below W.heap.size W W') : LIn w b1 b2 ws W' :=
  ⟨h.r.below hb, Nat.lt_of_lt_of_le h.lt hb.size, h.ne, fun i hi => (hb.cell h.lt).trans (h.c i hi), h.g.below hb, h.b.trans (hb.mono (Nat.le_of_lt h.r.lt)), h.h9⟩
theorem LIn.new {w w2 : World} {s : ByteArray} {e : Ending} (h : Words (w.alloc (.cells #[.int .i64 0, .int .i64 0, .int .i64 0] 35)) s e w2) (hg : Gl w) : LIn w w.heap.size (w.heap.size + 1) (wordsB s) w2 := by
  obtain ⟨-, h1, h2, h3⟩ := h
  have hz : (w.alloc (.cells #[.int .i64 0, .int .i64 0, .int .i64 0] 35)).heap.size = w.heap.size + 1 := by simp
  rw [hz] at h1 h2
  have b1 := below1 w (.cells #[.int .i64 0, .int .i64 0, .int .i64 0] 35)
  exact ⟨(Box.new w _ 35 rfl).below h3, h1, by omega, h2, (hg.below b1).below h3, b1.trans (h3.mono (by rw [hz]; omega)), hg.big⟩
theorem Gl.belowN {w w1 : World} {n : Nat} (h : Gl w) (hb : Below n w w1) (hn : 9 ≤ n) : Gl w1 := by
  have hz := h.big
  refine ⟨(hb.cell (by simp; omega)).trans h.k0, (hb.cell (by simp; omega)).trans h.k1, (hb.cell (by simp; omega)).trans h.k2, ?_, ?_, ?_, Nat.le_trans hz hb.size⟩
  · obtain ⟨m, hm⟩ := h.ml; exact ⟨m, (hb.cell (by simp; omega)).trans hm⟩
  · obtain ⟨m, hm, he⟩ := h.es; exact ⟨m, (hb.cell (by simp; omega)).trans hm, he⟩
  · obtain ⟨m, hm, he⟩ := h.er; exact ⟨m, (hb.cell (by simp; omega)).trans hm, he⟩
theorem LIn.belowN {w W W' : World} {b1 b2 n : Nat} {ws : List ByteArray} (h : LIn w b1 b2 ws W) (hb : Below n W W') (hn : b2 < n) : LIn w b1 b2 ws W' :=
  ⟨(hb.block b1 (by have := h.ne; omega)).trans h.r, Nat.lt_of_lt_of_le h.lt hb.size, h.ne, fun i hi => (hb.cell hn).trans (h.c i hi), h.g.belowN hb (by have := h.ne; have := h.h9; omega), h.b.trans (hb.mono (by have := h.ne; omega)), h.h9⟩
theorem LIn.set {w W : World} {b1 b2 b3 : Nat} {ws : List ByteArray} (h : LIn w b1 b2 ws W) (hb : b2 < b3) (hl : b3 < W.heap.size) (j : Nat) (u : Value) : LIn w b1 b2 ws (W.setCell ⟨b3, j, none⟩ u) :=
  h.belowN (below_set ((Below.refl W.heap.size W).mono (Nat.le_of_lt hl)) (Nat.le_refl _) j u) hb
theorem value_no (s : ByteArray) (w : World) (hs : s.size ≤ 100000) (hg : Gl w) (hv : valO s = none) : Calls Tryd.prog 41 #[.string s] w fun e w' => (∃ x, e = .returned (.tuple #[.int .i64 x, .bool false])) ∧ Below w.heap.size w w' :=
  (value_any s w hs hg).mono (by
    rintro e w' ⟨⟨v, h, -⟩ | ⟨-, h⟩, hb⟩
    · rw [valO_ok h] at hv; cases hv
    · exact ⟨h, hb⟩)
theorem value_yes (s : ByteArray) (t : Int) (w : World) (hs : s.size ≤ 100000) (hg : Gl w) (hv : valO s = some t) : Calls Tryd.prog 41 #[.string s] w fun e w' => e = .returned (.tuple #[.int .i64 t, .bool true]) ∧ Below w.heap.size w w' :=
  (value_any s w hs hg).mono (by
    rintro e w' ⟨⟨v, h, he⟩ | ⟨h, -⟩, hb⟩
    · rw [valO_ok h] at hv; cases hv; exact ⟨he, hb⟩
    · rw [valO_no h] at hv; cases hv)
theorem LIn.strs {w W : World} {b1 b2 : Nat} {h : ByteArray} {ns : List ByteArray} (i : LIn w b1 b2 (h :: ns) W) (cap : Nat) : SS W (.slice (some ⟨b2, 1, none⟩) ns.length cap) ns :=
  ⟨_, cap, rfl, .inr ⟨b2, 1, rfl, i.lt, fun j hj => by
    have := i.c (j + 1) (by simp; omega)
    rw [Nat.add_comm 1 j, this]; simp⟩⟩

set_option maxRecDepth 100000 in
set_option maxHeartbeats 1600000 in
theorem line_none (s : ByteArray) (w : World) (hs : s.size ≤ 65536) (hg : Gl w) (h : ByteArray) (ns : List ByteArray) (hw : wordsB s = h :: ns) (hk : kindL h = none) :
    Calls Tryd.prog 27 #[.string s] w (LineP s w) := by
  have HK := Lib.hid hk
  have HN : Hid (∀ x ∈ ns, x.size ≤ 100000) := Lib.hid (fun x hx => wordsB_small s 100000 (by omega) x (by rw [hw]; exact List.mem_cons_of_mem _ hx))
  have hnl : ns.length ≤ 65536 := by have := wordsB_le s; rw [hw] at this; simp at this; omega
  have hz0 : (wordsB s).length = ns.length + 1 := by rw [hw]; rfl
  have HG := Lib.hid hg
  have HW := Lib.hid hw
  have HS := Lib.hid (split_any s _ (by omega) (hg.below (below1 w (.cells #[.int .i64 0, .int .i64 0, .int .i64 0] 35))))
  have HKV : Hid (kindV h = .tuple #[.int .i64 0, .bool false]) := Lib.hid (by simp [kindV, hk])
  clear hw hg hk
  go_enter Tryd.func27, Tryd.ntmps27
  go_wp2_with fail
  refine HS.out.mono ?_
  intro e w2 hS
  have he := hS.1
  have I := Lib.hid (LIn.new hS HG.out)
  rw [HW.out] at I
  rw [hz0, show (w.alloc (.cells #[.int .i64 0, .int .i64 0, .int .i64 0] 35)).heap.size = w.heap.size + 1 by simp] at he
  subst he
  clear hS HS HG hz0
  obtain ⟨b1, hb1⟩ : ∃ b, w.heap.size = b := ⟨_, rfl⟩
  have HB := Lib.hid hb1
  rw [hb1] at I ⊢
  clear hb1
  have hc0 := I.out.c 0 (by simp)
  rw [List.getD_cons_zero] at hc0
  go_wp2_with fail
  clear hc0
  refine (kindOf_any h _ I.out.g).mono ?_
  rintro e w' ⟨rfl, rfl⟩
  rw [HKV.out]

  obtain ⟨⟨r0, r1, r2⟩, r3, r4, r5⟩ := I.out.r.cells3
  go_wp2_with fail
  all_goals (
    refine bodyPost_ret (v := .tuple #[.agg #[.int .i64 0, .int .i64 0, .int .i64 0], .int .i64 5]) (by simp [results, Tryd.f27, go_sem, r0, r1, r2]) rfl ?_
    refine LineP.mk' (p := zPk) (x := 5) (by unfold lineL; rw [HW.out]; simp only; rw [HK.out]) rfl ?_
    rw [HB.out]
    exact below_set (below_set (below_set I.out.b (Nat.le_refl _) _ _) (Nat.le_refl _) _ _) (Nat.le_refl _) _ _)

set_option maxRecDepth 100000 in
set_option maxHeartbeats 1600000 in
theorem line_mis0 (s : ByteArray) (w : World) (hs : s.size ≤ 65536) (hg : Gl w) (h : ByteArray) (ns : List ByteArray) (hw : wordsB s = h :: ns) (hk : kindL h = some 0) (hm : ¬ (ns.length : Int) = manyL 0) :
    Calls Tryd.prog 27 #[.string s] w (LineP s w) := by
  have HK := Lib.hid hk
  have HM := Lib.hid hm
  have hmb : ((ns.length : Int) != manyL 0) = true := by rw [bne_iff_ne]; exact hm
  clear hm
  have HN : Hid (∀ x ∈ ns, x.size ≤ 100000) := Lib.hid (fun x hx => wordsB_small s 100000 (by omega) x (by rw [hw]; exact List.mem_cons_of_mem _ hx))
  have hnl : ns.length ≤ 65536 := by have := wordsB_le s; rw [hw] at this; simp at this; omega
  have hz0 : (wordsB s).length = ns.length + 1 := by rw [hw]; rfl
  have HG := Lib.hid hg
  have HW := Lib.hid hw
  have HS := Lib.hid (split_any s _ (by omega) (hg.below (below1 w (.cells #[.int .i64 0, .int .i64 0, .int .i64 0] 35))))
  have HKV : Hid (kindV h = .tuple #[.int .i64 0, .bool true]) := Lib.hid (by simp [kindV, hk])
  clear hw hg hk
  go_enter Tryd.func27, Tryd.ntmps27
  go_wp2_with fail
  refine HS.out.mono ?_
  intro e w2 hS
  have he := hS.1
  have I := Lib.hid (LIn.new hS HG.out)
  rw [HW.out] at I
  rw [hz0, show (w.alloc (.cells #[.int .i64 0, .int .i64 0, .int .i64 0] 35)).heap.size = w.heap.size + 1 by simp] at he
  subst he
  clear hS HS HG hz0
  obtain ⟨b1, hb1⟩ : ∃ b, w.heap.size = b := ⟨_, rfl⟩
  have HB := Lib.hid hb1
  rw [hb1] at I ⊢
  clear hb1
  have hc0 := I.out.c 0 (by simp)
  rw [List.getD_cons_zero] at hc0
  go_wp2_with fail
  clear hc0
  refine (kindOf_any h _ I.out.g).mono ?_
  rintro e w' ⟨rfl, rfl⟩
  rw [HKV.out]

  go_wp2_with fail
  all_goals (
    refine (many_any 0 _ (by omega)).mono ?_
    rintro e w' ⟨rfl, rfl⟩
    obtain ⟨⟨r0, r1, r2⟩, r3, r4, r5⟩ := I.out.r.cells3
    go_wp2_with fail)
  all_goals (
    refine bodyPost_ret (v := .tuple #[.agg #[.int .i64 0, .int .i64 0, .int .i64 0], .int .i64 5]) (by simp [results, Tryd.f27, go_sem, r0, r1, r2]) rfl ?_
    refine LineP.mk' (p := zPk) (x := 5) (by unfold lineL; rw [HW.out]; simp only; rw [HK.out]; simp only; rw [if_neg (fun h => HM.out h.1)]) rfl ?_
    rw [HB.out]
    exact below_set (below_set (below_set I.out.b (Nat.le_refl _) _ _) (Nat.le_refl _) _ _) (Nat.le_refl _) _ _)

set_option maxRecDepth 100000 in
set_option maxHeartbeats 1600000 in
theorem line_mis1 (s : ByteArray) (w : World) (hs : s.size ≤ 65536) (hg : Gl w) (h : ByteArray) (ns : List ByteArray) (hw : wordsB s = h :: ns) (hk : kindL h = some 1) (hm : ¬ (ns.length : Int) = manyL 1) :
    Calls Tryd.prog 27 #[.string s] w (LineP s w) := by
  have HK := Lib.hid hk
  have HM := Lib.hid hm
  have hmb : ((ns.length : Int) != manyL 1) = true := by rw [bne_iff_ne]; exact hm
  clear hm
  have HN : Hid (∀ x ∈ ns, x.size ≤ 100000) := Lib.hid (fun x hx => wordsB_small s 100000 (by omega) x (by rw [hw]; exact List.mem_cons_of_mem _ hx))
  have hnl : ns.length ≤ 65536 := by have := wordsB_le s; rw [hw] at this; simp at this; omega
  have hz0 : (wordsB s).length = ns.length + 1 := by rw [hw]; rfl
  have HG := Lib.hid hg
  have HW := Lib.hid hw
  have HS := Lib.hid (split_any s _ (by omega) (hg.below (below1 w (.cells #[.int .i64 0, .int .i64 0, .int .i64 0] 35))))
  have HKV : Hid (kindV h = .tuple #[.int .i64 1, .bool true]) := Lib.hid (by simp [kindV, hk])
  clear hw hg hk
  go_enter Tryd.func27, Tryd.ntmps27
  go_wp2_with fail
  refine HS.out.mono ?_
  intro e w2 hS
  have he := hS.1
  have I := Lib.hid (LIn.new hS HG.out)
  rw [HW.out] at I
  rw [hz0, show (w.alloc (.cells #[.int .i64 0, .int .i64 0, .int .i64 0] 35)).heap.size = w.heap.size + 1 by simp] at he
  subst he
  clear hS HS HG hz0
  obtain ⟨b1, hb1⟩ : ∃ b, w.heap.size = b := ⟨_, rfl⟩
  have HB := Lib.hid hb1
  rw [hb1] at I ⊢
  clear hb1
  have hc0 := I.out.c 0 (by simp)
  rw [List.getD_cons_zero] at hc0
  go_wp2_with fail
  clear hc0
  refine (kindOf_any h _ I.out.g).mono ?_
  rintro e w' ⟨rfl, rfl⟩
  rw [HKV.out]

  go_wp2_with fail
  all_goals (
    refine (many_any 1 _ (by omega)).mono ?_
    rintro e w' ⟨rfl, rfl⟩
    obtain ⟨⟨r0, r1, r2⟩, r3, r4, r5⟩ := I.out.r.cells3
    go_wp2_with fail)
  all_goals (
    refine bodyPost_ret (v := .tuple #[.agg #[.int .i64 0, .int .i64 0, .int .i64 0], .int .i64 5]) (by simp [results, Tryd.f27, go_sem, r0, r1, r2]) rfl ?_
    refine LineP.mk' (p := zPk) (x := 5) (by unfold lineL; rw [HW.out]; simp only; rw [HK.out]; simp only; rw [if_neg (fun h => HM.out h.1)]) rfl ?_
    rw [HB.out]
    exact below_set (below_set (below_set I.out.b (Nat.le_refl _) _ _) (Nat.le_refl _) _ _) (Nat.le_refl _) _ _)

set_option maxRecDepth 100000 in
set_option maxHeartbeats 1600000 in
theorem line_mis2 (s : ByteArray) (w : World) (hs : s.size ≤ 65536) (hg : Gl w) (h : ByteArray) (ns : List ByteArray) (hw : wordsB s = h :: ns) (hk : kindL h = some 2) (hm : ¬ (ns.length : Int) = manyL 2) :
    Calls Tryd.prog 27 #[.string s] w (LineP s w) := by
  have HK := Lib.hid hk
  have HM := Lib.hid hm
  have hmb : ((ns.length : Int) != manyL 2) = true := by rw [bne_iff_ne]; exact hm
  clear hm
  have HN : Hid (∀ x ∈ ns, x.size ≤ 100000) := Lib.hid (fun x hx => wordsB_small s 100000 (by omega) x (by rw [hw]; exact List.mem_cons_of_mem _ hx))
  have hnl : ns.length ≤ 65536 := by have := wordsB_le s; rw [hw] at this; simp at this; omega
  have hz0 : (wordsB s).length = ns.length + 1 := by rw [hw]; rfl
  have HG := Lib.hid hg
  have HW := Lib.hid hw
  have HS := Lib.hid (split_any s _ (by omega) (hg.below (below1 w (.cells #[.int .i64 0, .int .i64 0, .int .i64 0] 35))))
  have HKV : Hid (kindV h = .tuple #[.int .i64 2, .bool true]) := Lib.hid (by simp [kindV, hk])
  clear hw hg hk
  go_enter Tryd.func27, Tryd.ntmps27
  go_wp2_with fail
  refine HS.out.mono ?_
  intro e w2 hS
  have he := hS.1
  have I := Lib.hid (LIn.new hS HG.out)
  rw [HW.out] at I
  rw [hz0, show (w.alloc (.cells #[.int .i64 0, .int .i64 0, .int .i64 0] 35)).heap.size = w.heap.size + 1 by simp] at he
  subst he
  clear hS HS HG hz0
  obtain ⟨b1, hb1⟩ : ∃ b, w.heap.size = b := ⟨_, rfl⟩
  have HB := Lib.hid hb1
  rw [hb1] at I ⊢
  clear hb1
  have hc0 := I.out.c 0 (by simp)
  rw [List.getD_cons_zero] at hc0
  go_wp2_with fail
  clear hc0
  refine (kindOf_any h _ I.out.g).mono ?_
  rintro e w' ⟨rfl, rfl⟩
  rw [HKV.out]

  go_wp2_with fail
  all_goals (
    refine (many_any 2 _ (by omega)).mono ?_
    rintro e w' ⟨rfl, rfl⟩
    obtain ⟨⟨r0, r1, r2⟩, r3, r4, r5⟩ := I.out.r.cells3
    go_wp2_with fail)
  all_goals (
    refine bodyPost_ret (v := .tuple #[.agg #[.int .i64 0, .int .i64 0, .int .i64 0], .int .i64 5]) (by simp [results, Tryd.f27, go_sem, r0, r1, r2]) rfl ?_
    refine LineP.mk' (p := zPk) (x := 5) (by unfold lineL; rw [HW.out]; simp only; rw [HK.out]; simp only; rw [if_neg (fun h => HM.out h.1)]) rfl ?_
    rw [HB.out]
    exact below_set (below_set (below_set I.out.b (Nat.le_refl _) _ _) (Nat.le_refl _) _ _) (Nat.le_refl _) _ _)

set_option maxRecDepth 100000 in
set_option maxHeartbeats 1600000 in
theorem line_can0 (s : ByteArray) (w : World) (hs : s.size ≤ 65536) (hg : Gl w) (h : ByteArray) (ns : List ByteArray) (hw : wordsB s = h :: ns) (a b : ByteArray) (hns : ns = [a, b]) (hk : kindL h = some 0) (hc : allCan ns = false) :
    Calls Tryd.prog 27 #[.string s] w (LineP s w) := by
  have HK := Lib.hid hk
  have HC := Lib.hid hc
  clear hc
  subst hns
  have HN : Hid (∀ x ∈ [a, b], x.size ≤ 100000) := Lib.hid (fun x hx => wordsB_small s 100000 (by omega) x (by rw [hw]; exact List.mem_cons_of_mem _ hx))
  have hz0 : (wordsB s).length = 3 := by rw [hw]; rfl
  have HG := Lib.hid hg
  have HW := Lib.hid hw
  have HS := Lib.hid (split_any s _ (by omega) (hg.below (below1 w (.cells #[.int .i64 0, .int .i64 0, .int .i64 0] 35))))
  have HKV : Hid (kindV h = .tuple #[.int .i64 0, .bool true]) := Lib.hid (by simp [kindV, hk])
  clear hw hg hk
  go_enter Tryd.func27, Tryd.ntmps27
  go_wp2_with fail
  refine HS.out.mono ?_
  intro e w2 hS
  have he := hS.1
  have I := Lib.hid (LIn.new hS HG.out)
  rw [HW.out] at I
  rw [hz0, show (w.alloc (.cells #[.int .i64 0, .int .i64 0, .int .i64 0] 35)).heap.size = w.heap.size + 1 by simp] at he
  subst he
  clear hS HS HG hz0
  obtain ⟨b1, hb1⟩ : ∃ b, w.heap.size = b := ⟨_, rfl⟩
  have HB := Lib.hid hb1
  rw [hb1] at I ⊢
  clear hb1
  have hc0 := I.out.c 0 (by simp)
  rw [List.getD_cons_zero] at hc0
  go_wp2_with fail
  clear hc0
  refine (kindOf_any h _ I.out.g).mono ?_
  rintro e w' ⟨rfl, rfl⟩
  rw [HKV.out]

  have hmb : ((2 : Int) != manyL 0) = false := by decide
  go_wp2_with fail
  refine (many_any 0 _ (by omega)).mono ?_
  rintro e w' ⟨rfl, rfl⟩
  go_wp2_with fail
  refine (allCan_any _ [a, b] _ (by simp) HN.out (I.out.strs _)).mono ?_
  rintro e w' ⟨rfl, rfl⟩
  rw [HC.out]
  obtain ⟨⟨r0, r1, r2⟩, r3, r4, r5⟩ := I.out.r.cells3
  go_wp2_with fail
  all_goals (
    refine bodyPost_ret (v := .tuple #[.agg #[.int .i64 0, .int .i64 0, .int .i64 0], .int .i64 5]) (by simp [results, Tryd.f27, go_sem, r0, r1, r2]) rfl ?_
    refine LineP.mk' (p := zPk) (x := 5) (by unfold lineL; rw [HW.out]; simp only; rw [HK.out]; simp only; rw [if_neg (fun h => by rw [HC.out] at h; cases h.2)]) rfl ?_
    rw [HB.out]
    exact below_set (below_set (below_set I.out.b (Nat.le_refl _) _ _) (Nat.le_refl _) _ _) (Nat.le_refl _) _ _)

set_option maxRecDepth 100000 in
set_option maxHeartbeats 1600000 in
theorem line_can1 (s : ByteArray) (w : World) (hs : s.size ≤ 65536) (hg : Gl w) (h : ByteArray) (ns : List ByteArray) (hw : wordsB s = h :: ns) (a : ByteArray) (hns : ns = [a]) (hk : kindL h = some 1) (hc : allCan ns = false) :
    Calls Tryd.prog 27 #[.string s] w (LineP s w) := by
  have HK := Lib.hid hk
  have HC := Lib.hid hc
  clear hc
  subst hns
  have HN : Hid (∀ x ∈ [a], x.size ≤ 100000) := Lib.hid (fun x hx => wordsB_small s 100000 (by omega) x (by rw [hw]; exact List.mem_cons_of_mem _ hx))
  have hz0 : (wordsB s).length = 2 := by rw [hw]; rfl
  have HG := Lib.hid hg
  have HW := Lib.hid hw
  have HS := Lib.hid (split_any s _ (by omega) (hg.below (below1 w (.cells #[.int .i64 0, .int .i64 0, .int .i64 0] 35))))
  have HKV : Hid (kindV h = .tuple #[.int .i64 1, .bool true]) := Lib.hid (by simp [kindV, hk])
  clear hw hg hk
  go_enter Tryd.func27, Tryd.ntmps27
  go_wp2_with fail
  refine HS.out.mono ?_
  intro e w2 hS
  have he := hS.1
  have I := Lib.hid (LIn.new hS HG.out)
  rw [HW.out] at I
  rw [hz0, show (w.alloc (.cells #[.int .i64 0, .int .i64 0, .int .i64 0] 35)).heap.size = w.heap.size + 1 by simp] at he
  subst he
  clear hS HS HG hz0
  obtain ⟨b1, hb1⟩ : ∃ b, w.heap.size = b := ⟨_, rfl⟩
  have HB := Lib.hid hb1
  rw [hb1] at I ⊢
  clear hb1
  have hc0 := I.out.c 0 (by simp)
  rw [List.getD_cons_zero] at hc0
  go_wp2_with fail
  clear hc0
  refine (kindOf_any h _ I.out.g).mono ?_
  rintro e w' ⟨rfl, rfl⟩
  rw [HKV.out]

  have hmb : ((1 : Int) != manyL 1) = false := by decide
  go_wp2_with fail
  refine (many_any 1 _ (by omega)).mono ?_
  rintro e w' ⟨rfl, rfl⟩
  go_wp2_with fail
  refine (allCan_any _ [a] _ (by simp) HN.out (I.out.strs _)).mono ?_
  rintro e w' ⟨rfl, rfl⟩
  rw [HC.out]
  obtain ⟨⟨r0, r1, r2⟩, r3, r4, r5⟩ := I.out.r.cells3
  go_wp2_with fail
  all_goals (
    refine bodyPost_ret (v := .tuple #[.agg #[.int .i64 0, .int .i64 0, .int .i64 0], .int .i64 5]) (by simp [results, Tryd.f27, go_sem, r0, r1, r2]) rfl ?_
    refine LineP.mk' (p := zPk) (x := 5) (by unfold lineL; rw [HW.out]; simp only; rw [HK.out]; simp only; rw [if_neg (fun h => by rw [HC.out] at h; cases h.2)]) rfl ?_
    rw [HB.out]
    exact below_set (below_set (below_set I.out.b (Nat.le_refl _) _ _) (Nat.le_refl _) _ _) (Nat.le_refl _) _ _)

set_option maxRecDepth 100000 in
set_option maxHeartbeats 1600000 in
theorem line_can2 (s : ByteArray) (w : World) (hs : s.size ≤ 65536) (hg : Gl w) (h : ByteArray) (ns : List ByteArray) (hw : wordsB s = h :: ns) (a : ByteArray) (hns : ns = [a]) (hk : kindL h = some 2) (hc : allCan ns = false) :
    Calls Tryd.prog 27 #[.string s] w (LineP s w) := by
  have HK := Lib.hid hk
  have HC := Lib.hid hc
  clear hc
  subst hns
  have HN : Hid (∀ x ∈ [a], x.size ≤ 100000) := Lib.hid (fun x hx => wordsB_small s 100000 (by omega) x (by rw [hw]; exact List.mem_cons_of_mem _ hx))
  have hz0 : (wordsB s).length = 2 := by rw [hw]; rfl
  have HG := Lib.hid hg
  have HW := Lib.hid hw
  have HS := Lib.hid (split_any s _ (by omega) (hg.below (below1 w (.cells #[.int .i64 0, .int .i64 0, .int .i64 0] 35))))
  have HKV : Hid (kindV h = .tuple #[.int .i64 2, .bool true]) := Lib.hid (by simp [kindV, hk])
  clear hw hg hk
  go_enter Tryd.func27, Tryd.ntmps27
  go_wp2_with fail
  refine HS.out.mono ?_
  intro e w2 hS
  have he := hS.1
  have I := Lib.hid (LIn.new hS HG.out)
  rw [HW.out] at I
  rw [hz0, show (w.alloc (.cells #[.int .i64 0, .int .i64 0, .int .i64 0] 35)).heap.size = w.heap.size + 1 by simp] at he
  subst he
  clear hS HS HG hz0
  obtain ⟨b1, hb1⟩ : ∃ b, w.heap.size = b := ⟨_, rfl⟩
  have HB := Lib.hid hb1
  rw [hb1] at I ⊢
  clear hb1
  have hc0 := I.out.c 0 (by simp)
  rw [List.getD_cons_zero] at hc0
  go_wp2_with fail
  clear hc0
  refine (kindOf_any h _ I.out.g).mono ?_
  rintro e w' ⟨rfl, rfl⟩
  rw [HKV.out]

  have hmb : ((1 : Int) != manyL 2) = false := by decide
  go_wp2_with fail
  refine (many_any 2 _ (by omega)).mono ?_
  rintro e w' ⟨rfl, rfl⟩
  go_wp2_with fail
  refine (allCan_any _ [a] _ (by simp) HN.out (I.out.strs _)).mono ?_
  rintro e w' ⟨rfl, rfl⟩
  rw [HC.out]
  obtain ⟨⟨r0, r1, r2⟩, r3, r4, r5⟩ := I.out.r.cells3
  go_wp2_with fail
  all_goals (
    refine bodyPost_ret (v := .tuple #[.agg #[.int .i64 0, .int .i64 0, .int .i64 0], .int .i64 5]) (by simp [results, Tryd.f27, go_sem, r0, r1, r2]) rfl ?_
    refine LineP.mk' (p := zPk) (x := 5) (by unfold lineL; rw [HW.out]; simp only; rw [HK.out]; simp only; rw [if_neg (fun h => by rw [HC.out] at h; cases h.2)]) rfl ?_
    rw [HB.out]
    exact below_set (below_set (below_set I.out.b (Nat.le_refl _) _ _) (Nat.le_refl _) _ _) (Nat.le_refl _) _ _)

end Go.Proofs.YtpgcnejofnhhfaaDoor
