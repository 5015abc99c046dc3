/- read of the reference, at every line. -/
import Derived.Test.YtpgcnejofnhhfaaDoorRWords
import Derived.Test.YtpgcnejofnhhfaaDoorRefCheck
import Derived.Deep.Cut
namespace Go.Proofs.YtpgcnejofnhhfaaDoor
open Go.ChangeShapes Go.WideShapes Go.ChangeAt Go.RowKit Go.Maps

theorem SRow.cells {B : Nat} {w : World} {v : Value} {ws : List (List UInt8)} (h : SRow B w v ws) (hn : ws ≠ []) : ∃ g cap, v = .slice (some ⟨g, 0, none⟩) ws.length cap ∧ B ≤ g ∧ g < w.heap.size ∧ ∀ i, i < ws.length → w.cell? ⟨g, i, none⟩ = some (.string ⟨(ws.getD i []).toArray⟩) := by
  obtain ⟨h1, ⟨h2, h3⟩ | ⟨g, cap, cur, hv, hB, hh, hc, hm, hs, ht⟩⟩ := h
  · exact absurd (List.length_eq_zero_iff.1 h3) hn
  · refine ⟨g, cap, hv, hB, (Array.getElem?_eq_some_iff.1 hh).1, fun i hi => ?_⟩
    unfold World.cell?
    simp only [hh]
    rw [← Array.getElem?_toList]
    have : (cur.toList.take (ws.length * 1))[i]? = some (.string ⟨(ws.getD i []).toArray⟩) := by
      rw [ht]; simp [List.getD, hi]
    rw [List.getElem?_take] at this
    split at this
    · exact this
    · cases this
def ReadP (r : Pk × Int) (w : World) (e : Ending) (w' : World) : Prop := e = .returned (.tuple #[pkV r.1, .int .i64 r.2]) ∧ Below w.heap.size w w'
/-- What the walk of read knows behind its two boxes. -/
structure RD (w W : World) (b0 bp g : Nat) (ws : List (List UInt8)) : Prop where
  r : Box W b0 #[.int .i64 0, .int .i64 0, .int .i64 0] 37
  p : Box W bp #[.int .i64 0, .int .i64 0, .int .i64 0] 37
  s : ∀ i, i < ws.length → W.cell? ⟨g, i, none⟩ = some (.string ⟨(ws.getD i []).toArray⟩)
  l : g < W.heap.size
  b : Below w.heap.size w W
  o : w.heap.size ≤ b0 ∧ b0 < bp ∧ g < bp ∧ b0 ≠ g
theorem RD.mk' {w w1 : World} {ws : List (List UInt8)} {g : Nat} (hb : Below (w.alloc (.cells #[.int .i64 0, .int .i64 0, .int .i64 0] 37)).heap.size (w.alloc (.cells #[.int .i64 0, .int .i64 0, .int .i64 0] 37)) w1) (hg : (w.alloc (.cells #[.int .i64 0, .int .i64 0, .int .i64 0] 37)).heap.size ≤ g) (hl : g < w1.heap.size) (hs : ∀ i, i < ws.length → w1.cell? ⟨g, i, none⟩ = some (.string ⟨(ws.getD i []).toArray⟩)) :
    RD w (w1.alloc (.cells #[.int .i64 0, .int .i64 0, .int .i64 0] 37)) w.heap.size w1.heap.size g ws := by
  have h1 : w.heap.size < w1.heap.size := by have := hb.size; simp at this; omega
  have h2 : w.heap.size + 1 ≤ g := by simpa using hg
  refine ⟨((Box.new w _ 37 rfl).below hb).alloc _, Box.new w1 _ 37 rfl, fun i hi => ?_, by simp; omega, ((below1 w _).trans (hb.mono (by simp))).alloc (by have := hb.size; simp at this; omega) _, Nat.le_refl _, h1, hl, by omega⟩
  exact (below1 w1 _).cell hl |>.trans (hs i hi)
set_option maxRecDepth 100000 in
set_option maxHeartbeats 1600000 in
theorem read_none (l : List UInt8) (w : World) (hl : l.length ≤ 3000) (h : List UInt8) (t : List (List UInt8)) (hw : wordsF l = h :: t) (hn : (h :: t).length ≤ 3001) (h0 : h ≠ [115, 116, 101, 112]) (h1 : h ≠ [115, 116, 111, 112]) (h2 : h ≠ [99, 114, 97, 115, 104]) : Calls Tryd.prog 28 #[.string ⟨l.toArray⟩] w (ReadP (zPk, 5) w) := by
  unfold ReadP pkV
  have HW := Lib.hid (words_any l (w.alloc (.cells #[.int .i64 0, .int .i64 0, .int .i64 0] 37)) hl)
  obtain ⟨n, hnn⟩ : ∃ n, (h :: t).length = n := ⟨_, rfl⟩
  have HNN := Lib.hid hnn
  go_enter Tryd.func28, Tryd.ntmps28
  go_wp2_with fail
  refine HW.out.mono ?_
  rintro e w1 ⟨v, rfl, hr, hb⟩
  rw [hw] at hr
  obtain ⟨g, cap, rfl, hgB, hgl, hcs⟩ := hr.cells (by simp)
  have D := Lib.hid (RD.mk' hb hgB hgl hcs)
  obtain ⟨b0, hb0⟩ : ∃ b, w.heap.size = b := ⟨_, rfl⟩
  obtain ⟨bp, hbp⟩ : ∃ b, w1.heap.size = b := ⟨_, rfl⟩
  obtain ⟨W, hW⟩ : ∃ W, w1.alloc (.cells #[.int .i64 0, .int .i64 0, .int .i64 0] 37) = W := ⟨_, rfl⟩
  rw [hb0, hbp, hW] at D
  have HB0 := Lib.hid hb0
  clear HW hr hb hgB hgl hcs
  go_upto_region 3 with fail
  clear hb0 hbp hW
  obtain ⟨o1, o2, o3, o4⟩ := D.out.o
  have n1 : b0 ≠ bp := by omega
  have ob : w.heap.size ≤ bp := by omega
  have n2 : bp ≠ b0 := by omega
  have n3 : g ≠ bp := by omega
  have n4 : bp ≠ g := by omega
  have n5 : g ≠ b0 := fun x => o4 x.symm
  obtain ⟨⟨r0, r1, r2⟩, rf0, rf1, rf2⟩ := D.out.r.cells3
  obtain ⟨⟨p0, p1, p2⟩, pf0, pf1, pf2⟩ := D.out.p.cells3
  have s0 := D.out.s 0 (by simp)
  simp only [List.getD_cons_zero] at s0
  obtain ⟨d, hd⟩ : ∃ d : ByteArray, (⟨h.toArray⟩ : ByteArray) = d := ⟨_, rfl⟩
  have hdl : d.toList = h := by rw [← hd, ByteArray.toList_eq]
  rw [hd] at s0
  have q0 : (d.toList == ([115, 116, 101, 112] : List UInt8)) = false := by rw [hdl, beq_eq_false_iff_ne]; exact h0
  have q1 : (d.toList == ([115, 116, 111, 112] : List UInt8)) = false := by rw [hdl, beq_eq_false_iff_ne]; exact h1
  have q2 : (d.toList == ([99, 114, 97, 115, 104] : List UInt8)) = false := by rw [hdl, beq_eq_false_iff_ne]; exact h2
  clear hd hdl
  rw [hnn] at hn
  have hpos : 0 < n := by rw [← hnn]; simp
  clear hnn
  have hposI : (0 : Int) < n := by omega
  go_wp2_with fail
  refine bodyPost_ret (v := .tuple #[.agg #[.int .i64 0, .int .i64 0, .int .i64 0], .int .i64 5]) (by simp [results, Tryd.f28, go_sem, r0, r1, r2]) rfl ?_
  exact ⟨rfl, ((D.out.b.setCell o1 _).setCell o1 _).setCell o1 _⟩
set_option maxRecDepth 100000 in
set_option maxHeartbeats 1600000 in
theorem read_no_step (l : List UInt8) (w : World) (hl : l.length ≤ 3000) (t : List (List UInt8)) (hw : wordsF l = [115, 116, 101, 112] :: t) (hn : ([115, 116, 101, 112] :: t).length ≤ 3001) (hk : ([115, 116, 101, 112] :: t).length ≠ 3) : Calls Tryd.prog 28 #[.string ⟨l.toArray⟩] w (ReadP (zPk, 5) w) := by
  unfold ReadP pkV
  have HW := Lib.hid (words_any l (w.alloc (.cells #[.int .i64 0, .int .i64 0, .int .i64 0] 37)) hl)
  obtain ⟨n, hnn⟩ : ∃ n, ([115, 116, 101, 112] :: t).length = n := ⟨_, rfl⟩
  have HNN := Lib.hid hnn
  go_enter Tryd.func28, Tryd.ntmps28
  go_wp2_with fail
  refine HW.out.mono ?_
  rintro e w1 ⟨v, rfl, hr, hb⟩
  rw [hw] at hr
  obtain ⟨g, cap, rfl, hgB, hgl, hcs⟩ := hr.cells (by simp)
  have D := Lib.hid (RD.mk' hb hgB hgl hcs)
  obtain ⟨b0, hb0⟩ : ∃ b, w.heap.size = b := ⟨_, rfl⟩
  obtain ⟨bp, hbp⟩ : ∃ b, w1.heap.size = b := ⟨_, rfl⟩
  obtain ⟨W, hW⟩ : ∃ W, w1.alloc (.cells #[.int .i64 0, .int .i64 0, .int .i64 0] 37) = W := ⟨_, rfl⟩
  rw [hb0, hbp, hW] at D
  have HB0 := Lib.hid hb0
  clear HW hr hb hgB hgl hcs
  go_upto_region 3 with fail
  clear hb0 hbp hW
  obtain ⟨o1, o2, o3, o4⟩ := D.out.o
  have n1 : b0 ≠ bp := by omega
  have ob : w.heap.size ≤ bp := by omega
  have n2 : bp ≠ b0 := by omega
  have n3 : g ≠ bp := by omega
  have n4 : bp ≠ g := by omega
  have n5 : g ≠ b0 := fun x => o4 x.symm
  obtain ⟨⟨r0, r1, r2⟩, rf0, rf1, rf2⟩ := D.out.r.cells3
  obtain ⟨⟨p0, p1, p2⟩, pf0, pf1, pf2⟩ := D.out.p.cells3
  have s0 := D.out.s 0 (by simp)
  simp only [List.getD_cons_zero] at s0
  obtain ⟨d, hd⟩ : ∃ d : ByteArray, (⟨([115, 116, 101, 112] : List UInt8).toArray⟩ : ByteArray) = d := ⟨_, rfl⟩
  have hdl : d.toList = [115, 116, 101, 112] := by rw [← hd, ByteArray.toList_eq]
  rw [hd] at s0
  have q0 : (d.toList == ([115, 116, 101, 112] : List UInt8)) = true := by rw [hdl]; rfl
  have q1 : (d.toList == ([115, 116, 111, 112] : List UInt8)) = false := by rw [hdl]; rfl
  have q2 : (d.toList == ([99, 114, 97, 115, 104] : List UInt8)) = false := by rw [hdl]; rfl
  clear hd hdl
  rw [hnn] at hn
  have hpos : 0 < n := by rw [← hnn]; simp
  have hk1 : ((n : Int) == 3) = false := by rw [beq_eq_false_iff_ne]; rw [hnn] at hk; omega
  clear hk
  clear hnn
  have hposI : (0 : Int) < n := by omega
  go_wp2_with fail
  refine bodyPost_ret (v := .tuple #[.agg #[.int .i64 0, .int .i64 0, .int .i64 0], .int .i64 5]) (by simp [results, Tryd.f28, go_sem, r0, r1, r2]) rfl ?_
  exact ⟨rfl, ((D.out.b.setCell o1 _).setCell o1 _).setCell o1 _⟩
set_option maxRecDepth 100000 in
set_option maxHeartbeats 1600000 in
theorem read_no_stop (l : List UInt8) (w : World) (hl : l.length ≤ 3000) (t : List (List UInt8)) (hw : wordsF l = [115, 116, 111, 112] :: t) (hn : ([115, 116, 111, 112] :: t).length ≤ 3001) (hk : ([115, 116, 111, 112] :: t).length ≠ 2) : Calls Tryd.prog 28 #[.string ⟨l.toArray⟩] w (ReadP (zPk, 5) w) := by
  unfold ReadP pkV
  have HW := Lib.hid (words_any l (w.alloc (.cells #[.int .i64 0, .int .i64 0, .int .i64 0] 37)) hl)
  obtain ⟨n, hnn⟩ : ∃ n, ([115, 116, 111, 112] :: t).length = n := ⟨_, rfl⟩
  have HNN := Lib.hid hnn
  go_enter Tryd.func28, Tryd.ntmps28
  go_wp2_with fail
  refine HW.out.mono ?_
  rintro e w1 ⟨v, rfl, hr, hb⟩
  rw [hw] at hr
  obtain ⟨g, cap, rfl, hgB, hgl, hcs⟩ := hr.cells (by simp)
  have D := Lib.hid (RD.mk' hb hgB hgl hcs)
  obtain ⟨b0, hb0⟩ : ∃ b, w.heap.size = b := ⟨_, rfl⟩
  obtain ⟨bp, hbp⟩ : ∃ b, w1.heap.size = b := ⟨_, rfl⟩
  obtain ⟨W, hW⟩ : ∃ W, w1.alloc (.cells #[.int .i64 0, .int .i64 0, .int .i64 0] 37) = W := ⟨_, rfl⟩
  rw [hb0, hbp, hW] at D
  have HB0 := Lib.hid hb0
  clear HW hr hb hgB hgl hcs
  go_upto_region 3 with fail
  clear hb0 hbp hW
  obtain ⟨o1, o2, o3, o4⟩ := D.out.o
  have n1 : b0 ≠ bp := by omega
  have ob : w.heap.size ≤ bp := by omega
  have n2 : bp ≠ b0 := by omega
  have n3 : g ≠ bp := by omega
  have n4 : bp ≠ g := by omega
  have n5 : g ≠ b0 := fun x => o4 x.symm
  obtain ⟨⟨r0, r1, r2⟩, rf0, rf1, rf2⟩ := D.out.r.cells3
  obtain ⟨⟨p0, p1, p2⟩, pf0, pf1, pf2⟩ := D.out.p.cells3
  have s0 := D.out.s 0 (by simp)
  simp only [List.getD_cons_zero] at s0
  obtain ⟨d, hd⟩ : ∃ d : ByteArray, (⟨([115, 116, 111, 112] : List UInt8).toArray⟩ : ByteArray) = d := ⟨_, rfl⟩
  have hdl : d.toList = [115, 116, 111, 112] := by rw [← hd, ByteArray.toList_eq]
  rw [hd] at s0
  have q0 : (d.toList == ([115, 116, 101, 112] : List UInt8)) = false := by rw [hdl]; rfl
  have q1 : (d.toList == ([115, 116, 111, 112] : List UInt8)) = true := by rw [hdl]; rfl
  have q2 : (d.toList == ([99, 114, 97, 115, 104] : List UInt8)) = false := by rw [hdl]; rfl
  clear hd hdl
  rw [hnn] at hn
  have hpos : 0 < n := by rw [← hnn]; simp
  have hk1 : ((n : Int) == 2) = false := by rw [beq_eq_false_iff_ne]; rw [hnn] at hk; omega
  clear hk
  clear hnn
  have hposI : (0 : Int) < n := by omega
  go_wp2_with fail
  refine bodyPost_ret (v := .tuple #[.agg #[.int .i64 0, .int .i64 0, .int .i64 0], .int .i64 5]) (by simp [results, Tryd.f28, go_sem, r0, r1, r2]) rfl ?_
  exact ⟨rfl, ((D.out.b.setCell o1 _).setCell o1 _).setCell o1 _⟩
set_option maxRecDepth 100000 in
set_option maxHeartbeats 1600000 in
theorem read_no_crash (l : List UInt8) (w : World) (hl : l.length ≤ 3000) (t : List (List UInt8)) (hw : wordsF l = [99, 114, 97, 115, 104] :: t) (hn : ([99, 114, 97, 115, 104] :: t).length ≤ 3001) (hk : ([99, 114, 97, 115, 104] :: t).length ≠ 2) : Calls Tryd.prog 28 #[.string ⟨l.toArray⟩] w (ReadP (zPk, 5) w) := by
  unfold ReadP pkV
  have HW := Lib.hid (words_any l (w.alloc (.cells #[.int .i64 0, .int .i64 0, .int .i64 0] 37)) hl)
  obtain ⟨n, hnn⟩ : ∃ n, ([99, 114, 97, 115, 104] :: t).length = n := ⟨_, rfl⟩
  have HNN := Lib.hid hnn
  go_enter Tryd.func28, Tryd.ntmps28
  go_wp2_with fail
  refine HW.out.mono ?_
  rintro e w1 ⟨v, rfl, hr, hb⟩
  rw [hw] at hr
  obtain ⟨g, cap, rfl, hgB, hgl, hcs⟩ := hr.cells (by simp)
  have D := Lib.hid (RD.mk' hb hgB hgl hcs)
  obtain ⟨b0, hb0⟩ : ∃ b, w.heap.size = b := ⟨_, rfl⟩
  obtain ⟨bp, hbp⟩ : ∃ b, w1.heap.size = b := ⟨_, rfl⟩
  obtain ⟨W, hW⟩ : ∃ W, w1.alloc (.cells #[.int .i64 0, .int .i64 0, .int .i64 0] 37) = W := ⟨_, rfl⟩
  rw [hb0, hbp, hW] at D
  have HB0 := Lib.hid hb0
  clear HW hr hb hgB hgl hcs
  go_upto_region 3 with fail
  clear hb0 hbp hW
  obtain ⟨o1, o2, o3, o4⟩ := D.out.o
  have n1 : b0 ≠ bp := by omega
  have ob : w.heap.size ≤ bp := by omega
  have n2 : bp ≠ b0 := by omega
  have n3 : g ≠ bp := by omega
  have n4 : bp ≠ g := by omega
  have n5 : g ≠ b0 := fun x => o4 x.symm
  obtain ⟨⟨r0, r1, r2⟩, rf0, rf1, rf2⟩ := D.out.r.cells3
  obtain ⟨⟨p0, p1, p2⟩, pf0, pf1, pf2⟩ := D.out.p.cells3
  have s0 := D.out.s 0 (by simp)
  simp only [List.getD_cons_zero] at s0
  obtain ⟨d, hd⟩ : ∃ d : ByteArray, (⟨([99, 114, 97, 115, 104] : List UInt8).toArray⟩ : ByteArray) = d := ⟨_, rfl⟩
  have hdl : d.toList = [99, 114, 97, 115, 104] := by rw [← hd, ByteArray.toList_eq]
  rw [hd] at s0
  have q0 : (d.toList == ([115, 116, 101, 112] : List UInt8)) = false := by rw [hdl]; rfl
  have q1 : (d.toList == ([115, 116, 111, 112] : List UInt8)) = false := by rw [hdl]; rfl
  have q2 : (d.toList == ([99, 114, 97, 115, 104] : List UInt8)) = true := by rw [hdl]; rfl
  clear hd hdl
  rw [hnn] at hn
  have hpos : 0 < n := by rw [← hnn]; simp
  have hk1 : ((n : Int) == 2) = false := by rw [beq_eq_false_iff_ne]; rw [hnn] at hk; omega
  clear hk
  clear hnn
  have hposI : (0 : Int) < n := by omega
  go_wp2_with fail
  refine bodyPost_ret (v := .tuple #[.agg #[.int .i64 0, .int .i64 0, .int .i64 0], .int .i64 5]) (by simp [results, Tryd.f28, go_sem, r0, r1, r2]) rfl ?_
  exact ⟨rfl, ((D.out.b.setCell o1 _).setCell o1 _).setCell o1 _⟩
set_option maxRecDepth 100000 in
set_option maxHeartbeats 1600000 in
theorem read_stop5 (l : List UInt8) (w : World) (hl : l.length ≤ 3000) (a : List UInt8) (hw : wordsF l = [[115, 116, 111, 112], a]) (hal : a.length ≤ 3000) (x : Int) (hx : numL a = (x, 5))  : Calls Tryd.prog 28 #[.string ⟨l.toArray⟩] w (ReadP (zPk, 5) w) := by
  unfold ReadP pkV
  have HW := Lib.hid (words_any l (w.alloc (.cells #[.int .i64 0, .int .i64 0, .int .i64 0] 37)) hl)
  have HNa := Lib.hid (fun W => number_any a W hal)
  rw [hx] at HNa
  clear hx
  go_enter Tryd.func28, Tryd.ntmps28
  go_wp2_with fail
  refine HW.out.mono ?_
  rintro e w1 ⟨v, rfl, hr, hb⟩
  rw [hw] at hr
  obtain ⟨g, cap, rfl, hgB, hgl, hcs⟩ := hr.cells (by simp)
  have D := Lib.hid (RD.mk' hb hgB hgl hcs)
  obtain ⟨b0, hb0⟩ : ∃ b, w.heap.size = b := ⟨_, rfl⟩
  obtain ⟨bp, hbp⟩ : ∃ b, w1.heap.size = b := ⟨_, rfl⟩
  obtain ⟨W, hW⟩ : ∃ W, w1.alloc (.cells #[.int .i64 0, .int .i64 0, .int .i64 0] 37) = W := ⟨_, rfl⟩
  rw [hb0, hbp, hW] at D
  have HB0 := Lib.hid hb0
  clear HW hr hb hgB hgl hcs
  go_upto_region 3 with fail
  clear hb0 hbp hW
  obtain ⟨o1, o2, o3, o4⟩ := D.out.o
  have n1 : b0 ≠ bp := by omega
  have ob : w.heap.size ≤ bp := by omega
  have n2 : bp ≠ b0 := by omega
  have n3 : g ≠ bp := by omega
  have n4 : bp ≠ g := by omega
  have n5 : g ≠ b0 := fun x => o4 x.symm
  obtain ⟨⟨r0, r1, r2⟩, rf0, rf1, rf2⟩ := D.out.r.cells3
  obtain ⟨⟨p0, p1, p2⟩, pf0, pf1, pf2⟩ := D.out.p.cells3
  have s0 := D.out.s 0 (by simp)
  have s1 := D.out.s 1 (by simp)
  simp only [List.getD_cons_zero, List.getD_cons_succ] at s0 s1
  obtain ⟨d, hd⟩ : ∃ d : ByteArray, (⟨([115, 116, 111, 112] : List UInt8).toArray⟩ : ByteArray) = d := ⟨_, rfl⟩
  have hdl : d.toList = [115, 116, 111, 112] := by rw [← hd, ByteArray.toList_eq]
  rw [hd] at s0
  have q0 : (d.toList == ([115, 116, 101, 112] : List UInt8)) = false := by rw [hdl]; rfl
  have q1 : (d.toList == ([115, 116, 111, 112] : List UInt8)) = true := by rw [hdl]; rfl
  have q2 : (d.toList == ([99, 114, 97, 115, 104] : List UInt8)) = false := by rw [hdl]; rfl
  clear hd hdl
  go_wp2_with fail
  refine wp_loop_rounds 2 ?_
  rw [rounds_succ]
  go_wp2_with fail
  refine (HNa.out _).mono ?_
  rintro e w2 ⟨rfl, rfl⟩
  go_wp2_with fail
  refine bodyPost_ret (v := .tuple #[.agg #[.int .i64 0, .int .i64 0, .int .i64 0], .int .i64 5]) (by simp [results, Tryd.f28, go_sem, *]) rfl ?_
  refine ⟨rfl, ?_⟩
  repeat (refine Below.setCell ?_ (by first | exact o1 | exact ob) _)
  exact D.out.b
set_option maxRecDepth 100000 in
set_option maxHeartbeats 1600000 in
theorem read_stop3 (l : List UInt8) (w : World) (hl : l.length ≤ 3000) (a : List UInt8) (hw : wordsF l = [[115, 116, 111, 112], a]) (hal : a.length ≤ 3000) (x : Int) (hx : numL a = (x, 3))  : Calls Tryd.prog 28 #[.string ⟨l.toArray⟩] w (ReadP (zPk, 3) w) := by
  unfold ReadP pkV
  have HW := Lib.hid (words_any l (w.alloc (.cells #[.int .i64 0, .int .i64 0, .int .i64 0] 37)) hl)
  have HNa := Lib.hid (fun W => number_any a W hal)
  rw [hx] at HNa
  clear hx
  go_enter Tryd.func28, Tryd.ntmps28
  go_wp2_with fail
  refine HW.out.mono ?_
  rintro e w1 ⟨v, rfl, hr, hb⟩
  rw [hw] at hr
  obtain ⟨g, cap, rfl, hgB, hgl, hcs⟩ := hr.cells (by simp)
  have D := Lib.hid (RD.mk' hb hgB hgl hcs)
  obtain ⟨b0, hb0⟩ : ∃ b, w.heap.size = b := ⟨_, rfl⟩
  obtain ⟨bp, hbp⟩ : ∃ b, w1.heap.size = b := ⟨_, rfl⟩
  obtain ⟨W, hW⟩ : ∃ W, w1.alloc (.cells #[.int .i64 0, .int .i64 0, .int .i64 0] 37) = W := ⟨_, rfl⟩
  rw [hb0, hbp, hW] at D
  have HB0 := Lib.hid hb0
  clear HW hr hb hgB hgl hcs
  go_upto_region 3 with fail
  clear hb0 hbp hW
  obtain ⟨o1, o2, o3, o4⟩ := D.out.o
  have n1 : b0 ≠ bp := by omega
  have ob : w.heap.size ≤ bp := by omega
  have n2 : bp ≠ b0 := by omega
  have n3 : g ≠ bp := by omega
  have n4 : bp ≠ g := by omega
  have n5 : g ≠ b0 := fun x => o4 x.symm
  obtain ⟨⟨r0, r1, r2⟩, rf0, rf1, rf2⟩ := D.out.r.cells3
  obtain ⟨⟨p0, p1, p2⟩, pf0, pf1, pf2⟩ := D.out.p.cells3
  have s0 := D.out.s 0 (by simp)
  have s1 := D.out.s 1 (by simp)
  simp only [List.getD_cons_zero, List.getD_cons_succ] at s0 s1
  obtain ⟨d, hd⟩ : ∃ d : ByteArray, (⟨([115, 116, 111, 112] : List UInt8).toArray⟩ : ByteArray) = d := ⟨_, rfl⟩
  have hdl : d.toList = [115, 116, 111, 112] := by rw [← hd, ByteArray.toList_eq]
  rw [hd] at s0
  have q0 : (d.toList == ([115, 116, 101, 112] : List UInt8)) = false := by rw [hdl]; rfl
  have q1 : (d.toList == ([115, 116, 111, 112] : List UInt8)) = true := by rw [hdl]; rfl
  have q2 : (d.toList == ([99, 114, 97, 115, 104] : List UInt8)) = false := by rw [hdl]; rfl
  clear hd hdl
  go_wp2_with fail
  refine wp_loop_rounds 2 ?_
  rw [rounds_succ]
  go_wp2_with fail
  refine (HNa.out _).mono ?_
  rintro e w2 ⟨rfl, rfl⟩
  go_wp2_with fail
  rw [rounds_succ]
  go_wp2_with fail
  refine bodyPost_ret (v := .tuple #[.agg #[.int .i64 0, .int .i64 0, .int .i64 0], .int .i64 3]) (by simp [results, Tryd.f28, go_sem, *]) rfl ?_
  refine ⟨rfl, ?_⟩
  repeat (refine Below.setCell ?_ (by first | exact o1 | exact ob) _)
  exact D.out.b
set_option maxRecDepth 100000 in
set_option maxHeartbeats 1600000 in
theorem read_stop0 (l : List UInt8) (w : World) (hl : l.length ≤ 3000) (a : List UInt8) (hw : wordsF l = [[115, 116, 111, 112], a]) (hal : a.length ≤ 3000) (x : Int) (hx : numL a = (x, 0)) (hc : checkL (1, x, 0) = 0)  : Calls Tryd.prog 28 #[.string ⟨l.toArray⟩] w (ReadP ((1, x, 0), 0) w) := by
  unfold ReadP pkV
  have HW := Lib.hid (words_any l (w.alloc (.cells #[.int .i64 0, .int .i64 0, .int .i64 0] 37)) hl)
  have HNa := Lib.hid (fun W => number_any a W hal)
  rw [hx] at HNa
  clear hx
  go_enter Tryd.func28, Tryd.ntmps28
  go_wp2_with fail
  refine HW.out.mono ?_
  rintro e w1 ⟨v, rfl, hr, hb⟩
  rw [hw] at hr
  obtain ⟨g, cap, rfl, hgB, hgl, hcs⟩ := hr.cells (by simp)
  have D := Lib.hid (RD.mk' hb hgB hgl hcs)
  obtain ⟨b0, hb0⟩ : ∃ b, w.heap.size = b := ⟨_, rfl⟩
  obtain ⟨bp, hbp⟩ : ∃ b, w1.heap.size = b := ⟨_, rfl⟩
  obtain ⟨W, hW⟩ : ∃ W, w1.alloc (.cells #[.int .i64 0, .int .i64 0, .int .i64 0] 37) = W := ⟨_, rfl⟩
  rw [hb0, hbp, hW] at D
  have HB0 := Lib.hid hb0
  clear HW hr hb hgB hgl hcs
  go_upto_region 3 with fail
  clear hb0 hbp hW
  obtain ⟨o1, o2, o3, o4⟩ := D.out.o
  have n1 : b0 ≠ bp := by omega
  have ob : w.heap.size ≤ bp := by omega
  have n2 : bp ≠ b0 := by omega
  have n3 : g ≠ bp := by omega
  have n4 : bp ≠ g := by omega
  have n5 : g ≠ b0 := fun x => o4 x.symm
  obtain ⟨⟨r0, r1, r2⟩, rf0, rf1, rf2⟩ := D.out.r.cells3
  obtain ⟨⟨p0, p1, p2⟩, pf0, pf1, pf2⟩ := D.out.p.cells3
  have s0 := D.out.s 0 (by simp)
  have s1 := D.out.s 1 (by simp)
  simp only [List.getD_cons_zero, List.getD_cons_succ] at s0 s1
  obtain ⟨d, hd⟩ : ∃ d : ByteArray, (⟨([115, 116, 111, 112] : List UInt8).toArray⟩ : ByteArray) = d := ⟨_, rfl⟩
  have hdl : d.toList = [115, 116, 111, 112] := by rw [← hd, ByteArray.toList_eq]
  rw [hd] at s0
  have q0 : (d.toList == ([115, 116, 101, 112] : List UInt8)) = false := by rw [hdl]; rfl
  have q1 : (d.toList == ([115, 116, 111, 112] : List UInt8)) = true := by rw [hdl]; rfl
  have q2 : (d.toList == ([99, 114, 97, 115, 104] : List UInt8)) = false := by rw [hdl]; rfl
  clear hd hdl
  go_wp2_with fail
  refine wp_loop_rounds 2 ?_
  rw [rounds_succ]
  go_wp2_with fail
  refine (HNa.out _).mono ?_
  rintro e w2 ⟨rfl, rfl⟩
  go_wp2_with fail
  rw [rounds_succ]
  go_wp2_with fail
  have BR := Lib.hid ((D.out.r.other n1 0 (.int .i64 1)).other n1 1 (.int .i64 x))
  have BP : Hid (Box ((W.setCell ⟨bp, 0, none⟩ (.int .i64 1)).setCell ⟨bp, 1, none⟩ (.int .i64 x)) bp #[.int .i64 1, .int .i64 x, .int .i64 0] 37) := Lib.hid (by simpa using ((D.out.p.set 0 (.int .i64 1)).set 1 (.int .i64 x)))
  have BB := Lib.hid ((D.out.b.setCell (p := ⟨bp, 0, none⟩) ob (.int .i64 1)).setCell (p := ⟨bp, 1, none⟩) ob (.int .i64 x))
  obtain ⟨V, hV⟩ : ∃ V, ((W.setCell ⟨bp, 0, none⟩ (.int .i64 1)).setCell ⟨bp, 1, none⟩ (.int .i64 x)) = V := ⟨_, rfl⟩
  rw [hV] at BR BP BB
  simp only [hV]
  clear hV r0 r1 r2 rf0 rf1 rf2 p0 p1 p2 pf0 pf1 pf2 s0 s1 D
  refine (rcheck_any 1 x 0 _).mono ?_
  rintro e w3 ⟨rfl, hb3⟩
  rw [hc]
  obtain ⟨⟨r0, r1, r2⟩, rf0, rf1, rf2⟩ := (BR.out.below hb3).cells3
  obtain ⟨⟨p0, p1, p2⟩, pf0, pf1, pf2⟩ := (BP.out.below hb3).cells3
  have BB2 := Lib.hid (BB.out.trans (hb3.mono BB.out.size))
  clear hb3 hc
  go_wp2_with fail
  refine bodyPost_ret (v := .tuple #[.agg #[.int .i64 1, .int .i64 x, .int .i64 0], .int .i64 0]) (by simp [results, Tryd.f28, go_sem, *]) rfl ?_
  refine ⟨rfl, ?_⟩
  repeat (refine Below.setCell ?_ o1 _)
  exact BB2.out
set_option maxRecDepth 100000 in
set_option maxHeartbeats 1600000 in
theorem read_stop0n (l : List UInt8) (w : World) (hl : l.length ≤ 3000) (a : List UInt8) (hw : wordsF l = [[115, 116, 111, 112], a]) (hal : a.length ≤ 3000) (x : Int) (hx : numL a = (x, 0)) (v : Int) (hv : checkL (1, x, 0) = v) (hc : (v != 0) = true)  : Calls Tryd.prog 28 #[.string ⟨l.toArray⟩] w (ReadP (zPk, 3) w) := by
  unfold ReadP pkV
  have HW := Lib.hid (words_any l (w.alloc (.cells #[.int .i64 0, .int .i64 0, .int .i64 0] 37)) hl)
  have HNa := Lib.hid (fun W => number_any a W hal)
  rw [hx] at HNa
  clear hx
  go_enter Tryd.func28, Tryd.ntmps28
  go_wp2_with fail
  refine HW.out.mono ?_
  rintro e w1 ⟨v, rfl, hr, hb⟩
  rw [hw] at hr
  obtain ⟨g, cap, rfl, hgB, hgl, hcs⟩ := hr.cells (by simp)
  have D := Lib.hid (RD.mk' hb hgB hgl hcs)
  obtain ⟨b0, hb0⟩ : ∃ b, w.heap.size = b := ⟨_, rfl⟩
  obtain ⟨bp, hbp⟩ : ∃ b, w1.heap.size = b := ⟨_, rfl⟩
  obtain ⟨W, hW⟩ : ∃ W, w1.alloc (.cells #[.int .i64 0, .int .i64 0, .int .i64 0] 37) = W := ⟨_, rfl⟩
  rw [hb0, hbp, hW] at D
  have HB0 := Lib.hid hb0
  clear HW hr hb hgB hgl hcs
  go_upto_region 3 with fail
  clear hb0 hbp hW
  obtain ⟨o1, o2, o3, o4⟩ := D.out.o
  have n1 : b0 ≠ bp := by omega
  have ob : w.heap.size ≤ bp := by omega
  have n2 : bp ≠ b0 := by omega
  have n3 : g ≠ bp := by omega
  have n4 : bp ≠ g := by omega
  have n5 : g ≠ b0 := fun x => o4 x.symm
  obtain ⟨⟨r0, r1, r2⟩, rf0, rf1, rf2⟩ := D.out.r.cells3
  obtain ⟨⟨p0, p1, p2⟩, pf0, pf1, pf2⟩ := D.out.p.cells3
  have s0 := D.out.s 0 (by simp)
  have s1 := D.out.s 1 (by simp)
  simp only [List.getD_cons_zero, List.getD_cons_succ] at s0 s1
  obtain ⟨d, hd⟩ : ∃ d : ByteArray, (⟨([115, 116, 111, 112] : List UInt8).toArray⟩ : ByteArray) = d := ⟨_, rfl⟩
  have hdl : d.toList = [115, 116, 111, 112] := by rw [← hd, ByteArray.toList_eq]
  rw [hd] at s0
  have q0 : (d.toList == ([115, 116, 101, 112] : List UInt8)) = false := by rw [hdl]; rfl
  have q1 : (d.toList == ([115, 116, 111, 112] : List UInt8)) = true := by rw [hdl]; rfl
  have q2 : (d.toList == ([99, 114, 97, 115, 104] : List UInt8)) = false := by rw [hdl]; rfl
  clear hd hdl
  go_wp2_with fail
  refine wp_loop_rounds 2 ?_
  rw [rounds_succ]
  go_wp2_with fail
  refine (HNa.out _).mono ?_
  rintro e w2 ⟨rfl, rfl⟩
  go_wp2_with fail
  rw [rounds_succ]
  go_wp2_with fail
  have BR := Lib.hid ((D.out.r.other n1 0 (.int .i64 1)).other n1 1 (.int .i64 x))
  have BP : Hid (Box ((W.setCell ⟨bp, 0, none⟩ (.int .i64 1)).setCell ⟨bp, 1, none⟩ (.int .i64 x)) bp #[.int .i64 1, .int .i64 x, .int .i64 0] 37) := Lib.hid (by simpa using ((D.out.p.set 0 (.int .i64 1)).set 1 (.int .i64 x)))
  have BB := Lib.hid ((D.out.b.setCell (p := ⟨bp, 0, none⟩) ob (.int .i64 1)).setCell (p := ⟨bp, 1, none⟩) ob (.int .i64 x))
  obtain ⟨V, hV⟩ : ∃ V, ((W.setCell ⟨bp, 0, none⟩ (.int .i64 1)).setCell ⟨bp, 1, none⟩ (.int .i64 x)) = V := ⟨_, rfl⟩
  rw [hV] at BR BP BB
  simp only [hV]
  clear hV r0 r1 r2 rf0 rf1 rf2 p0 p1 p2 pf0 pf1 pf2 s0 s1 D
  refine (rcheck_any 1 x 0 _).mono ?_
  rintro e w3 ⟨rfl, hb3⟩
  rw [hv]
  obtain ⟨⟨r0, r1, r2⟩, rf0, rf1, rf2⟩ := (BR.out.below hb3).cells3
  obtain ⟨⟨p0, p1, p2⟩, pf0, pf1, pf2⟩ := (BP.out.below hb3).cells3
  have BB2 := Lib.hid (BB.out.trans (hb3.mono BB.out.size))
  clear hb3 hv
  go_wp2_with fail
  refine bodyPost_ret (v := .tuple #[.agg #[.int .i64 0, .int .i64 0, .int .i64 0], .int .i64 3]) (by simp [results, Tryd.f28, go_sem, *]) rfl ?_
  refine ⟨rfl, ?_⟩
  repeat (refine Below.setCell ?_ o1 _)
  exact BB2.out
set_option maxRecDepth 100000 in
set_option maxHeartbeats 1600000 in
theorem read_crash5 (l : List UInt8) (w : World) (hl : l.length ≤ 3000) (a : List UInt8) (hw : wordsF l = [[99, 114, 97, 115, 104], a]) (hal : a.length ≤ 3000) (x : Int) (hx : numL a = (x, 5))  : Calls Tryd.prog 28 #[.string ⟨l.toArray⟩] w (ReadP (zPk, 5) w) := by
  unfold ReadP pkV
  have HW := Lib.hid (words_any l (w.alloc (.cells #[.int .i64 0, .int .i64 0, .int .i64 0] 37)) hl)
  have HNa := Lib.hid (fun W => number_any a W hal)
  rw [hx] at HNa
  clear hx
  go_enter Tryd.func28, Tryd.ntmps28
  go_wp2_with fail
  refine HW.out.mono ?_
  rintro e w1 ⟨v, rfl, hr, hb⟩
  rw [hw] at hr
  obtain ⟨g, cap, rfl, hgB, hgl, hcs⟩ := hr.cells (by simp)
  have D := Lib.hid (RD.mk' hb hgB hgl hcs)
  obtain ⟨b0, hb0⟩ : ∃ b, w.heap.size = b := ⟨_, rfl⟩
  obtain ⟨bp, hbp⟩ : ∃ b, w1.heap.size = b := ⟨_, rfl⟩
  obtain ⟨W, hW⟩ : ∃ W, w1.alloc (.cells #[.int .i64 0, .int .i64 0, .int .i64 0] 37) = W := ⟨_, rfl⟩
  rw [hb0, hbp, hW] at D
  have HB0 := Lib.hid hb0
  clear HW hr hb hgB hgl hcs
  go_upto_region 3 with fail
  clear hb0 hbp hW
  obtain ⟨o1, o2, o3, o4⟩ := D.out.o
  have n1 : b0 ≠ bp := by omega
  have ob : w.heap.size ≤ bp := by omega
  have n2 : bp ≠ b0 := by omega
  have n3 : g ≠ bp := by omega
  have n4 : bp ≠ g := by omega
  have n5 : g ≠ b0 := fun x => o4 x.symm
  obtain ⟨⟨r0, r1, r2⟩, rf0, rf1, rf2⟩ := D.out.r.cells3
  obtain ⟨⟨p0, p1, p2⟩, pf0, pf1, pf2⟩ := D.out.p.cells3
  have s0 := D.out.s 0 (by simp)
  have s1 := D.out.s 1 (by simp)
  simp only [List.getD_cons_zero, List.getD_cons_succ] at s0 s1
  obtain ⟨d, hd⟩ : ∃ d : ByteArray, (⟨([99, 114, 97, 115, 104] : List UInt8).toArray⟩ : ByteArray) = d := ⟨_, rfl⟩
  have hdl : d.toList = [99, 114, 97, 115, 104] := by rw [← hd, ByteArray.toList_eq]
  rw [hd] at s0
  have q0 : (d.toList == ([115, 116, 101, 112] : List UInt8)) = false := by rw [hdl]; rfl
  have q1 : (d.toList == ([115, 116, 111, 112] : List UInt8)) = false := by rw [hdl]; rfl
  have q2 : (d.toList == ([99, 114, 97, 115, 104] : List UInt8)) = true := by rw [hdl]; rfl
  clear hd hdl
  go_wp2_with fail
  refine wp_loop_rounds 2 ?_
  rw [rounds_succ]
  go_wp2_with fail
  refine (HNa.out _).mono ?_
  rintro e w2 ⟨rfl, rfl⟩
  go_wp2_with fail
  refine bodyPost_ret (v := .tuple #[.agg #[.int .i64 0, .int .i64 0, .int .i64 0], .int .i64 5]) (by simp [results, Tryd.f28, go_sem, *]) rfl ?_
  refine ⟨rfl, ?_⟩
  repeat (refine Below.setCell ?_ (by first | exact o1 | exact ob) _)
  exact D.out.b
set_option maxRecDepth 100000 in
set_option maxHeartbeats 1600000 in
theorem read_crash3 (l : List UInt8) (w : World) (hl : l.length ≤ 3000) (a : List UInt8) (hw : wordsF l = [[99, 114, 97, 115, 104], a]) (hal : a.length ≤ 3000) (x : Int) (hx : numL a = (x, 3))  : Calls Tryd.prog 28 #[.string ⟨l.toArray⟩] w (ReadP (zPk, 3) w) := by
  unfold ReadP pkV
  have HW := Lib.hid (words_any l (w.alloc (.cells #[.int .i64 0, .int .i64 0, .int .i64 0] 37)) hl)
  have HNa := Lib.hid (fun W => number_any a W hal)
  rw [hx] at HNa
  clear hx
  go_enter Tryd.func28, Tryd.ntmps28
  go_wp2_with fail
  refine HW.out.mono ?_
  rintro e w1 ⟨v, rfl, hr, hb⟩
  rw [hw] at hr
  obtain ⟨g, cap, rfl, hgB, hgl, hcs⟩ := hr.cells (by simp)
  have D := Lib.hid (RD.mk' hb hgB hgl hcs)
  obtain ⟨b0, hb0⟩ : ∃ b, w.heap.size = b := ⟨_, rfl⟩
  obtain ⟨bp, hbp⟩ : ∃ b, w1.heap.size = b := ⟨_, rfl⟩
  obtain ⟨W, hW⟩ : ∃ W, w1.alloc (.cells #[.int .i64 0, .int .i64 0, .int .i64 0] 37) = W := ⟨_, rfl⟩
  rw [hb0, hbp, hW] at D
  have HB0 := Lib.hid hb0
  clear HW hr hb hgB hgl hcs
  go_upto_region 3 with fail
  clear hb0 hbp hW
  obtain ⟨o1, o2, o3, o4⟩ := D.out.o
  have n1 : b0 ≠ bp := by omega
  have ob : w.heap.size ≤ bp := by omega
  have n2 : bp ≠ b0 := by omega
  have n3 : g ≠ bp := by omega
  have n4 : bp ≠ g := by omega
  have n5 : g ≠ b0 := fun x => o4 x.symm
  obtain ⟨⟨r0, r1, r2⟩, rf0, rf1, rf2⟩ := D.out.r.cells3
  obtain ⟨⟨p0, p1, p2⟩, pf0, pf1, pf2⟩ := D.out.p.cells3
  have s0 := D.out.s 0 (by simp)
  have s1 := D.out.s 1 (by simp)
  simp only [List.getD_cons_zero, List.getD_cons_succ] at s0 s1
  obtain ⟨d, hd⟩ : ∃ d : ByteArray, (⟨([99, 114, 97, 115, 104] : List UInt8).toArray⟩ : ByteArray) = d := ⟨_, rfl⟩
  have hdl : d.toList = [99, 114, 97, 115, 104] := by rw [← hd, ByteArray.toList_eq]
  rw [hd] at s0
  have q0 : (d.toList == ([115, 116, 101, 112] : List UInt8)) = false := by rw [hdl]; rfl
  have q1 : (d.toList == ([115, 116, 111, 112] : List UInt8)) = false := by rw [hdl]; rfl
  have q2 : (d.toList == ([99, 114, 97, 115, 104] : List UInt8)) = true := by rw [hdl]; rfl
  clear hd hdl
  go_wp2_with fail
  refine wp_loop_rounds 2 ?_
  rw [rounds_succ]
  go_wp2_with fail
  refine (HNa.out _).mono ?_
  rintro e w2 ⟨rfl, rfl⟩
  go_wp2_with fail
  rw [rounds_succ]
  go_wp2_with fail
  refine bodyPost_ret (v := .tuple #[.agg #[.int .i64 0, .int .i64 0, .int .i64 0], .int .i64 3]) (by simp [results, Tryd.f28, go_sem, *]) rfl ?_
  refine ⟨rfl, ?_⟩
  repeat (refine Below.setCell ?_ (by first | exact o1 | exact ob) _)
  exact D.out.b
set_option maxRecDepth 100000 in
set_option maxHeartbeats 1600000 in
theorem read_crash0 (l : List UInt8) (w : World) (hl : l.length ≤ 3000) (a : List UInt8) (hw : wordsF l = [[99, 114, 97, 115, 104], a]) (hal : a.length ≤ 3000) (x : Int) (hx : numL a = (x, 0)) (hc : checkL (2, 0, x) = 0)  : Calls Tryd.prog 28 #[.string ⟨l.toArray⟩] w (ReadP ((2, 0, x), 0) w) := by
  unfold ReadP pkV
  have HW := Lib.hid (words_any l (w.alloc (.cells #[.int .i64 0, .int .i64 0, .int .i64 0] 37)) hl)
  have HNa := Lib.hid (fun W => number_any a W hal)
  rw [hx] at HNa
  clear hx
  go_enter Tryd.func28, Tryd.ntmps28
  go_wp2_with fail
  refine HW.out.mono ?_
  rintro e w1 ⟨v, rfl, hr, hb⟩
  rw [hw] at hr
  obtain ⟨g, cap, rfl, hgB, hgl, hcs⟩ := hr.cells (by simp)
  have D := Lib.hid (RD.mk' hb hgB hgl hcs)
  obtain ⟨b0, hb0⟩ : ∃ b, w.heap.size = b := ⟨_, rfl⟩
  obtain ⟨bp, hbp⟩ : ∃ b, w1.heap.size = b := ⟨_, rfl⟩
  obtain ⟨W, hW⟩ : ∃ W, w1.alloc (.cells #[.int .i64 0, .int .i64 0, .int .i64 0] 37) = W := ⟨_, rfl⟩
  rw [hb0, hbp, hW] at D
  have HB0 := Lib.hid hb0
  clear HW hr hb hgB hgl hcs
  go_upto_region 3 with fail
  clear hb0 hbp hW
  obtain ⟨o1, o2, o3, o4⟩ := D.out.o
  have n1 : b0 ≠ bp := by omega
  have ob : w.heap.size ≤ bp := by omega
  have n2 : bp ≠ b0 := by omega
  have n3 : g ≠ bp := by omega
  have n4 : bp ≠ g := by omega
  have n5 : g ≠ b0 := fun x => o4 x.symm
  obtain ⟨⟨r0, r1, r2⟩, rf0, rf1, rf2⟩ := D.out.r.cells3
  obtain ⟨⟨p0, p1, p2⟩, pf0, pf1, pf2⟩ := D.out.p.cells3
  have s0 := D.out.s 0 (by simp)
  have s1 := D.out.s 1 (by simp)
  simp only [List.getD_cons_zero, List.getD_cons_succ] at s0 s1
  obtain ⟨d, hd⟩ : ∃ d : ByteArray, (⟨([99, 114, 97, 115, 104] : List UInt8).toArray⟩ : ByteArray) = d := ⟨_, rfl⟩
  have hdl : d.toList = [99, 114, 97, 115, 104] := by rw [← hd, ByteArray.toList_eq]
  rw [hd] at s0
  have q0 : (d.toList == ([115, 116, 101, 112] : List UInt8)) = false := by rw [hdl]; rfl
  have q1 : (d.toList == ([115, 116, 111, 112] : List UInt8)) = false := by rw [hdl]; rfl
  have q2 : (d.toList == ([99, 114, 97, 115, 104] : List UInt8)) = true := by rw [hdl]; rfl
  clear hd hdl
  go_wp2_with fail
  refine wp_loop_rounds 2 ?_
  rw [rounds_succ]
  go_wp2_with fail
  refine (HNa.out _).mono ?_
  rintro e w2 ⟨rfl, rfl⟩
  go_wp2_with fail
  rw [rounds_succ]
  go_wp2_with fail
  have BR := Lib.hid ((D.out.r.other n1 0 (.int .i64 2)).other n1 2 (.int .i64 x))
  have BP : Hid (Box ((W.setCell ⟨bp, 0, none⟩ (.int .i64 2)).setCell ⟨bp, 2, none⟩ (.int .i64 x)) bp #[.int .i64 2, .int .i64 0, .int .i64 x] 37) := Lib.hid (by simpa using ((D.out.p.set 0 (.int .i64 2)).set 2 (.int .i64 x)))
  have BB := Lib.hid ((D.out.b.setCell (p := ⟨bp, 0, none⟩) ob (.int .i64 2)).setCell (p := ⟨bp, 2, none⟩) ob (.int .i64 x))
  obtain ⟨V, hV⟩ : ∃ V, ((W.setCell ⟨bp, 0, none⟩ (.int .i64 2)).setCell ⟨bp, 2, none⟩ (.int .i64 x)) = V := ⟨_, rfl⟩
  rw [hV] at BR BP BB
  simp only [hV]
  clear hV r0 r1 r2 rf0 rf1 rf2 p0 p1 p2 pf0 pf1 pf2 s0 s1 D
  refine (rcheck_any 2 0 x _).mono ?_
  rintro e w3 ⟨rfl, hb3⟩
  rw [hc]
  obtain ⟨⟨r0, r1, r2⟩, rf0, rf1, rf2⟩ := (BR.out.below hb3).cells3
  obtain ⟨⟨p0, p1, p2⟩, pf0, pf1, pf2⟩ := (BP.out.below hb3).cells3
  have BB2 := Lib.hid (BB.out.trans (hb3.mono BB.out.size))
  clear hb3 hc
  go_wp2_with fail
  refine bodyPost_ret (v := .tuple #[.agg #[.int .i64 2, .int .i64 0, .int .i64 x], .int .i64 0]) (by simp [results, Tryd.f28, go_sem, *]) rfl ?_
  refine ⟨rfl, ?_⟩
  repeat (refine Below.setCell ?_ o1 _)
  exact BB2.out
set_option maxRecDepth 100000 in
set_option maxHeartbeats 1600000 in
theorem read_crash0n (l : List UInt8) (w : World) (hl : l.length ≤ 3000) (a : List UInt8) (hw : wordsF l = [[99, 114, 97, 115, 104], a]) (hal : a.length ≤ 3000) (x : Int) (hx : numL a = (x, 0)) (v : Int) (hv : checkL (2, 0, x) = v) (hc : (v != 0) = true)  : Calls Tryd.prog 28 #[.string ⟨l.toArray⟩] w (ReadP (zPk, 3) w) := by
  unfold ReadP pkV
  have HW := Lib.hid (words_any l (w.alloc (.cells #[.int .i64 0, .int .i64 0, .int .i64 0] 37)) hl)
  have HNa := Lib.hid (fun W => number_any a W hal)
  rw [hx] at HNa
  clear hx
  go_enter Tryd.func28, Tryd.ntmps28
  go_wp2_with fail
  refine HW.out.mono ?_
  rintro e w1 ⟨v, rfl, hr, hb⟩
  rw [hw] at hr
  obtain ⟨g, cap, rfl, hgB, hgl, hcs⟩ := hr.cells (by simp)
  have D := Lib.hid (RD.mk' hb hgB hgl hcs)
  obtain ⟨b0, hb0⟩ : ∃ b, w.heap.size = b := ⟨_, rfl⟩
  obtain ⟨bp, hbp⟩ : ∃ b, w1.heap.size = b := ⟨_, rfl⟩
  obtain ⟨W, hW⟩ : ∃ W, w1.alloc (.cells #[.int .i64 0, .int .i64 0, .int .i64 0] 37) = W := ⟨_, rfl⟩
  rw [hb0, hbp, hW] at D
  have HB0 := Lib.hid hb0
  clear HW hr hb hgB hgl hcs
  go_upto_region 3 with fail
  clear hb0 hbp hW
  obtain ⟨o1, o2, o3, o4⟩ := D.out.o
  have n1 : b0 ≠ bp := by omega
  have ob : w.heap.size ≤ bp := by omega
  have n2 : bp ≠ b0 := by omega
  have n3 : g ≠ bp := by omega
  have n4 : bp ≠ g := by omega
  have n5 : g ≠ b0 := fun x => o4 x.symm
  obtain ⟨⟨r0, r1, r2⟩, rf0, rf1, rf2⟩ := D.out.r.cells3
  obtain ⟨⟨p0, p1, p2⟩, pf0, pf1, pf2⟩ := D.out.p.cells3
  have s0 := D.out.s 0 (by simp)
  have s1 := D.out.s 1 (by simp)
  simp only [List.getD_cons_zero, List.getD_cons_succ] at s0 s1
  obtain ⟨d, hd⟩ : ∃ d : ByteArray, (⟨([99, 114, 97, 115, 104] : List UInt8).toArray⟩ : ByteArray) = d := ⟨_, rfl⟩
  have hdl : d.toList = [99, 114, 97, 115, 104] := by rw [← hd, ByteArray.toList_eq]
  rw [hd] at s0
  have q0 : (d.toList == ([115, 116, 101, 112] : List UInt8)) = false := by rw [hdl]; rfl
  have q1 : (d.toList == ([115, 116, 111, 112] : List UInt8)) = false := by rw [hdl]; rfl
  have q2 : (d.toList == ([99, 114, 97, 115, 104] : List UInt8)) = true := by rw [hdl]; rfl
  clear hd hdl
  go_wp2_with fail
  refine wp_loop_rounds 2 ?_
  rw [rounds_succ]
  go_wp2_with fail
  refine (HNa.out _).mono ?_
  rintro e w2 ⟨rfl, rfl⟩
  go_wp2_with fail
  rw [rounds_succ]
  go_wp2_with fail
  have BR := Lib.hid ((D.out.r.other n1 0 (.int .i64 2)).other n1 2 (.int .i64 x))
  have BP : Hid (Box ((W.setCell ⟨bp, 0, none⟩ (.int .i64 2)).setCell ⟨bp, 2, none⟩ (.int .i64 x)) bp #[.int .i64 2, .int .i64 0, .int .i64 x] 37) := Lib.hid (by simpa using ((D.out.p.set 0 (.int .i64 2)).set 2 (.int .i64 x)))
  have BB := Lib.hid ((D.out.b.setCell (p := ⟨bp, 0, none⟩) ob (.int .i64 2)).setCell (p := ⟨bp, 2, none⟩) ob (.int .i64 x))
  obtain ⟨V, hV⟩ : ∃ V, ((W.setCell ⟨bp, 0, none⟩ (.int .i64 2)).setCell ⟨bp, 2, none⟩ (.int .i64 x)) = V := ⟨_, rfl⟩
  rw [hV] at BR BP BB
  simp only [hV]
  clear hV r0 r1 r2 rf0 rf1 rf2 p0 p1 p2 pf0 pf1 pf2 s0 s1 D
  refine (rcheck_any 2 0 x _).mono ?_
  rintro e w3 ⟨rfl, hb3⟩
  rw [hv]
  obtain ⟨⟨r0, r1, r2⟩, rf0, rf1, rf2⟩ := (BR.out.below hb3).cells3
  obtain ⟨⟨p0, p1, p2⟩, pf0, pf1, pf2⟩ := (BP.out.below hb3).cells3
  have BB2 := Lib.hid (BB.out.trans (hb3.mono BB.out.size))
  clear hb3 hv
  go_wp2_with fail
  refine bodyPost_ret (v := .tuple #[.agg #[.int .i64 0, .int .i64 0, .int .i64 0], .int .i64 3]) (by simp [results, Tryd.f28, go_sem, *]) rfl ?_
  refine ⟨rfl, ?_⟩
  repeat (refine Below.setCell ?_ o1 _)
  exact BB2.out
set_option maxRecDepth 100000 in
set_option maxHeartbeats 1600000 in
theorem read_step5 (l : List UInt8) (w : World) (hl : l.length ≤ 3000) (a b : List UInt8) (hw : wordsF l = [[115, 116, 101, 112], a, b]) (hal : a.length ≤ 3000) (_ : b.length ≤ 3000) (x : Int) (hx : numL a = (x, 5))  : Calls Tryd.prog 28 #[.string ⟨l.toArray⟩] w (ReadP (zPk, 5) w) := by
  unfold ReadP pkV
  have HW := Lib.hid (words_any l (w.alloc (.cells #[.int .i64 0, .int .i64 0, .int .i64 0] 37)) hl)
  have HNa := Lib.hid (fun W => number_any a W hal)
  rw [hx] at HNa
  clear hx
  go_enter Tryd.func28, Tryd.ntmps28
  go_wp2_with fail
  refine HW.out.mono ?_
  rintro e w1 ⟨v, rfl, hr, hb⟩
  rw [hw] at hr
  obtain ⟨g, cap, rfl, hgB, hgl, hcs⟩ := hr.cells (by simp)
  have D := Lib.hid (RD.mk' hb hgB hgl hcs)
  obtain ⟨b0, hb0⟩ : ∃ b, w.heap.size = b := ⟨_, rfl⟩
  obtain ⟨bp, hbp⟩ : ∃ b, w1.heap.size = b := ⟨_, rfl⟩
  obtain ⟨W, hW⟩ : ∃ W, w1.alloc (.cells #[.int .i64 0, .int .i64 0, .int .i64 0] 37) = W := ⟨_, rfl⟩
  rw [hb0, hbp, hW] at D
  have HB0 := Lib.hid hb0
  clear HW hr hb hgB hgl hcs
  go_upto_region 3 with fail
  clear hb0 hbp hW
  obtain ⟨o1, o2, o3, o4⟩ := D.out.o
  have n1 : b0 ≠ bp := by omega
  have ob : w.heap.size ≤ bp := by omega
  have n2 : bp ≠ b0 := by omega
  have n3 : g ≠ bp := by omega
  have n4 : bp ≠ g := by omega
  have n5 : g ≠ b0 := fun x => o4 x.symm
  obtain ⟨⟨r0, r1, r2⟩, rf0, rf1, rf2⟩ := D.out.r.cells3
  obtain ⟨⟨p0, p1, p2⟩, pf0, pf1, pf2⟩ := D.out.p.cells3
  have s0 := D.out.s 0 (by simp)
  have s1 := D.out.s 1 (by simp)
  have s2 := D.out.s 2 (by simp)
  simp only [List.getD_cons_zero, List.getD_cons_succ] at s0 s1 s2
  obtain ⟨d, hd⟩ : ∃ d : ByteArray, (⟨([115, 116, 101, 112] : List UInt8).toArray⟩ : ByteArray) = d := ⟨_, rfl⟩
  have hdl : d.toList = [115, 116, 101, 112] := by rw [← hd, ByteArray.toList_eq]
  rw [hd] at s0
  have q0 : (d.toList == ([115, 116, 101, 112] : List UInt8)) = true := by rw [hdl]; rfl
  have q1 : (d.toList == ([115, 116, 111, 112] : List UInt8)) = false := by rw [hdl]; rfl
  have q2 : (d.toList == ([99, 114, 97, 115, 104] : List UInt8)) = false := by rw [hdl]; rfl
  clear hd hdl
  go_wp2_with fail
  refine wp_loop_rounds 2 ?_
  rw [rounds_succ]
  go_wp2_with fail
  refine (HNa.out _).mono ?_
  rintro e w2 ⟨rfl, rfl⟩
  go_wp2_with fail
  refine bodyPost_ret (v := .tuple #[.agg #[.int .i64 0, .int .i64 0, .int .i64 0], .int .i64 5]) (by simp [results, Tryd.f28, go_sem, *]) rfl ?_
  refine ⟨rfl, ?_⟩
  repeat (refine Below.setCell ?_ (by first | exact o1 | exact ob) _)
  exact D.out.b
set_option maxRecDepth 100000 in
set_option maxHeartbeats 1600000 in
theorem read_step05 (l : List UInt8) (w : World) (hl : l.length ≤ 3000) (a b : List UInt8) (hw : wordsF l = [[115, 116, 101, 112], a, b]) (hal : a.length ≤ 3000) (hbl : b.length ≤ 3000) (x : Int) (hx : numL a = (x, 0)) (y : Int) (hy : numL b = (y, 5))  : Calls Tryd.prog 28 #[.string ⟨l.toArray⟩] w (ReadP (zPk, 5) w) := by
  unfold ReadP pkV
  have HW := Lib.hid (words_any l (w.alloc (.cells #[.int .i64 0, .int .i64 0, .int .i64 0] 37)) hl)
  have HNa := Lib.hid (fun W => number_any a W hal)
  rw [hx] at HNa
  clear hx
  have HNb := Lib.hid (fun W => number_any b W hbl)
  rw [hy] at HNb
  clear hy
  go_enter Tryd.func28, Tryd.ntmps28
  go_wp2_with fail
  refine HW.out.mono ?_
  rintro e w1 ⟨v, rfl, hr, hb⟩
  rw [hw] at hr
  obtain ⟨g, cap, rfl, hgB, hgl, hcs⟩ := hr.cells (by simp)
  have D := Lib.hid (RD.mk' hb hgB hgl hcs)
  obtain ⟨b0, hb0⟩ : ∃ b, w.heap.size = b := ⟨_, rfl⟩
  obtain ⟨bp, hbp⟩ : ∃ b, w1.heap.size = b := ⟨_, rfl⟩
  obtain ⟨W, hW⟩ : ∃ W, w1.alloc (.cells #[.int .i64 0, .int .i64 0, .int .i64 0] 37) = W := ⟨_, rfl⟩
  rw [hb0, hbp, hW] at D
  have HB0 := Lib.hid hb0
  clear HW hr hb hgB hgl hcs
  go_upto_region 3 with fail
  clear hb0 hbp hW
  obtain ⟨o1, o2, o3, o4⟩ := D.out.o
  have n1 : b0 ≠ bp := by omega
  have ob : w.heap.size ≤ bp := by omega
  have n2 : bp ≠ b0 := by omega
  have n3 : g ≠ bp := by omega
  have n4 : bp ≠ g := by omega
  have n5 : g ≠ b0 := fun x => o4 x.symm
  obtain ⟨⟨r0, r1, r2⟩, rf0, rf1, rf2⟩ := D.out.r.cells3
  obtain ⟨⟨p0, p1, p2⟩, pf0, pf1, pf2⟩ := D.out.p.cells3
  have s0 := D.out.s 0 (by simp)
  have s1 := D.out.s 1 (by simp)
  have s2 := D.out.s 2 (by simp)
  simp only [List.getD_cons_zero, List.getD_cons_succ] at s0 s1 s2
  obtain ⟨d, hd⟩ : ∃ d : ByteArray, (⟨([115, 116, 101, 112] : List UInt8).toArray⟩ : ByteArray) = d := ⟨_, rfl⟩
  have hdl : d.toList = [115, 116, 101, 112] := by rw [← hd, ByteArray.toList_eq]
  rw [hd] at s0
  have q0 : (d.toList == ([115, 116, 101, 112] : List UInt8)) = true := by rw [hdl]; rfl
  have q1 : (d.toList == ([115, 116, 111, 112] : List UInt8)) = false := by rw [hdl]; rfl
  have q2 : (d.toList == ([99, 114, 97, 115, 104] : List UInt8)) = false := by rw [hdl]; rfl
  clear hd hdl
  go_wp2_with fail
  refine wp_loop_rounds 3 ?_
  rw [rounds_succ]
  go_wp2_with fail
  refine (HNa.out _).mono ?_
  rintro e w2 ⟨rfl, rfl⟩
  go_wp2_with fail
  rw [rounds_succ]
  go_wp2_with fail
  refine (HNb.out _).mono ?_
  rintro e w2 ⟨rfl, rfl⟩
  go_wp2_with fail
  refine bodyPost_ret (v := .tuple #[.agg #[.int .i64 0, .int .i64 0, .int .i64 0], .int .i64 5]) (by simp [results, Tryd.f28, go_sem, *]) rfl ?_
  refine ⟨rfl, ?_⟩
  repeat (refine Below.setCell ?_ (by first | exact o1 | exact ob) _)
  exact D.out.b
set_option maxRecDepth 100000 in
set_option maxHeartbeats 1600000 in
theorem read_step35 (l : List UInt8) (w : World) (hl : l.length ≤ 3000) (a b : List UInt8) (hw : wordsF l = [[115, 116, 101, 112], a, b]) (hal : a.length ≤ 3000) (hbl : b.length ≤ 3000) (x : Int) (hx : numL a = (x, 3)) (y : Int) (hy : numL b = (y, 5))  : Calls Tryd.prog 28 #[.string ⟨l.toArray⟩] w (ReadP (zPk, 5) w) := by
  unfold ReadP pkV
  have HW := Lib.hid (words_any l (w.alloc (.cells #[.int .i64 0, .int .i64 0, .int .i64 0] 37)) hl)
  have HNa := Lib.hid (fun W => number_any a W hal)
  rw [hx] at HNa
  clear hx
  have HNb := Lib.hid (fun W => number_any b W hbl)
  rw [hy] at HNb
  clear hy
  go_enter Tryd.func28, Tryd.ntmps28
  go_wp2_with fail
  refine HW.out.mono ?_
  rintro e w1 ⟨v, rfl, hr, hb⟩
  rw [hw] at hr
  obtain ⟨g, cap, rfl, hgB, hgl, hcs⟩ := hr.cells (by simp)
  have D := Lib.hid (RD.mk' hb hgB hgl hcs)
  obtain ⟨b0, hb0⟩ : ∃ b, w.heap.size = b := ⟨_, rfl⟩
  obtain ⟨bp, hbp⟩ : ∃ b, w1.heap.size = b := ⟨_, rfl⟩
  obtain ⟨W, hW⟩ : ∃ W, w1.alloc (.cells #[.int .i64 0, .int .i64 0, .int .i64 0] 37) = W := ⟨_, rfl⟩
  rw [hb0, hbp, hW] at D
  have HB0 := Lib.hid hb0
  clear HW hr hb hgB hgl hcs
  go_upto_region 3 with fail
  clear hb0 hbp hW
  obtain ⟨o1, o2, o3, o4⟩ := D.out.o
  have n1 : b0 ≠ bp := by omega
  have ob : w.heap.size ≤ bp := by omega
  have n2 : bp ≠ b0 := by omega
  have n3 : g ≠ bp := by omega
  have n4 : bp ≠ g := by omega
  have n5 : g ≠ b0 := fun x => o4 x.symm
  obtain ⟨⟨r0, r1, r2⟩, rf0, rf1, rf2⟩ := D.out.r.cells3
  obtain ⟨⟨p0, p1, p2⟩, pf0, pf1, pf2⟩ := D.out.p.cells3
  have s0 := D.out.s 0 (by simp)
  have s1 := D.out.s 1 (by simp)
  have s2 := D.out.s 2 (by simp)
  simp only [List.getD_cons_zero, List.getD_cons_succ] at s0 s1 s2
  obtain ⟨d, hd⟩ : ∃ d : ByteArray, (⟨([115, 116, 101, 112] : List UInt8).toArray⟩ : ByteArray) = d := ⟨_, rfl⟩
  have hdl : d.toList = [115, 116, 101, 112] := by rw [← hd, ByteArray.toList_eq]
  rw [hd] at s0
  have q0 : (d.toList == ([115, 116, 101, 112] : List UInt8)) = true := by rw [hdl]; rfl
  have q1 : (d.toList == ([115, 116, 111, 112] : List UInt8)) = false := by rw [hdl]; rfl
  have q2 : (d.toList == ([99, 114, 97, 115, 104] : List UInt8)) = false := by rw [hdl]; rfl
  clear hd hdl
  go_wp2_with fail
  refine wp_loop_rounds 3 ?_
  rw [rounds_succ]
  go_wp2_with fail
  refine (HNa.out _).mono ?_
  rintro e w2 ⟨rfl, rfl⟩
  go_wp2_with fail
  rw [rounds_succ]
  go_wp2_with fail
  refine (HNb.out _).mono ?_
  rintro e w2 ⟨rfl, rfl⟩
  go_wp2_with fail
  refine bodyPost_ret (v := .tuple #[.agg #[.int .i64 0, .int .i64 0, .int .i64 0], .int .i64 5]) (by simp [results, Tryd.f28, go_sem, *]) rfl ?_
  refine ⟨rfl, ?_⟩
  repeat (refine Below.setCell ?_ (by first | exact o1 | exact ob) _)
  exact D.out.b
set_option maxRecDepth 100000 in
set_option maxHeartbeats 1600000 in
theorem read_step00 (l : List UInt8) (w : World) (hl : l.length ≤ 3000) (a b : List UInt8) (hw : wordsF l = [[115, 116, 101, 112], a, b]) (hal : a.length ≤ 3000) (hbl : b.length ≤ 3000) (x : Int) (hx : numL a = (x, 0)) (y : Int) (hy : numL b = (y, 0)) (hc : checkL (0, x, y) = 0)  : Calls Tryd.prog 28 #[.string ⟨l.toArray⟩] w (ReadP ((0, x, y), 0) w) := by
  unfold ReadP pkV
  have HW := Lib.hid (words_any l (w.alloc (.cells #[.int .i64 0, .int .i64 0, .int .i64 0] 37)) hl)
  have HNa := Lib.hid (fun W => number_any a W hal)
  rw [hx] at HNa
  clear hx
  have HNb := Lib.hid (fun W => number_any b W hbl)
  rw [hy] at HNb
  clear hy
  go_enter Tryd.func28, Tryd.ntmps28
  go_wp2_with fail
  refine HW.out.mono ?_
  rintro e w1 ⟨v, rfl, hr, hb⟩
  rw [hw] at hr
  obtain ⟨g, cap, rfl, hgB, hgl, hcs⟩ := hr.cells (by simp)
  have D := Lib.hid (RD.mk' hb hgB hgl hcs)
  obtain ⟨b0, hb0⟩ : ∃ b, w.heap.size = b := ⟨_, rfl⟩
  obtain ⟨bp, hbp⟩ : ∃ b, w1.heap.size = b := ⟨_, rfl⟩
  obtain ⟨W, hW⟩ : ∃ W, w1.alloc (.cells #[.int .i64 0, .int .i64 0, .int .i64 0] 37) = W := ⟨_, rfl⟩
  rw [hb0, hbp, hW] at D
  have HB0 := Lib.hid hb0
  clear HW hr hb hgB hgl hcs
  go_upto_region 3 with fail
  clear hb0 hbp hW
  obtain ⟨o1, o2, o3, o4⟩ := D.out.o
  have n1 : b0 ≠ bp := by omega
  have ob : w.heap.size ≤ bp := by omega
  have n2 : bp ≠ b0 := by omega
  have n3 : g ≠ bp := by omega
  have n4 : bp ≠ g := by omega
  have n5 : g ≠ b0 := fun x => o4 x.symm
  obtain ⟨⟨r0, r1, r2⟩, rf0, rf1, rf2⟩ := D.out.r.cells3
  obtain ⟨⟨p0, p1, p2⟩, pf0, pf1, pf2⟩ := D.out.p.cells3
  have s0 := D.out.s 0 (by simp)
  have s1 := D.out.s 1 (by simp)
  have s2 := D.out.s 2 (by simp)
  simp only [List.getD_cons_zero, List.getD_cons_succ] at s0 s1 s2
  obtain ⟨d, hd⟩ : ∃ d : ByteArray, (⟨([115, 116, 101, 112] : List UInt8).toArray⟩ : ByteArray) = d := ⟨_, rfl⟩
  have hdl : d.toList = [115, 116, 101, 112] := by rw [← hd, ByteArray.toList_eq]
  rw [hd] at s0
  have q0 : (d.toList == ([115, 116, 101, 112] : List UInt8)) = true := by rw [hdl]; rfl
  have q1 : (d.toList == ([115, 116, 111, 112] : List UInt8)) = false := by rw [hdl]; rfl
  have q2 : (d.toList == ([99, 114, 97, 115, 104] : List UInt8)) = false := by rw [hdl]; rfl
  clear hd hdl
  go_wp2_with fail
  refine wp_loop_rounds 3 ?_
  rw [rounds_succ]
  go_wp2_with fail
  refine (HNa.out _).mono ?_
  rintro e w2 ⟨rfl, rfl⟩
  go_wp2_with fail
  rw [rounds_succ]
  go_wp2_with fail
  refine (HNb.out _).mono ?_
  rintro e w2 ⟨rfl, rfl⟩
  go_wp2_with fail
  rw [rounds_succ]
  go_wp2_with fail
  have BR := Lib.hid (((D.out.r.other n1 0 (.int .i64 0)).other n1 1 (.int .i64 x)).other n1 2 (.int .i64 y))
  have BP : Hid (Box (((W.setCell ⟨bp, 0, none⟩ (.int .i64 0)).setCell ⟨bp, 1, none⟩ (.int .i64 x)).setCell ⟨bp, 2, none⟩ (.int .i64 y)) bp #[.int .i64 0, .int .i64 x, .int .i64 y] 37) := Lib.hid (by simpa using (((D.out.p.set 0 (.int .i64 0)).set 1 (.int .i64 x)).set 2 (.int .i64 y)))
  have BB := Lib.hid (((D.out.b.setCell (p := ⟨bp, 0, none⟩) ob (.int .i64 0)).setCell (p := ⟨bp, 1, none⟩) ob (.int .i64 x)).setCell (p := ⟨bp, 2, none⟩) ob (.int .i64 y))
  obtain ⟨V, hV⟩ : ∃ V, (((W.setCell ⟨bp, 0, none⟩ (.int .i64 0)).setCell ⟨bp, 1, none⟩ (.int .i64 x)).setCell ⟨bp, 2, none⟩ (.int .i64 y)) = V := ⟨_, rfl⟩
  rw [hV] at BR BP BB
  simp only [hV]
  clear hV r0 r1 r2 rf0 rf1 rf2 p0 p1 p2 pf0 pf1 pf2 s0 s1 s2 D
  refine (rcheck_any 0 x y _).mono ?_
  rintro e w3 ⟨rfl, hb3⟩
  rw [hc]
  obtain ⟨⟨r0, r1, r2⟩, rf0, rf1, rf2⟩ := (BR.out.below hb3).cells3
  obtain ⟨⟨p0, p1, p2⟩, pf0, pf1, pf2⟩ := (BP.out.below hb3).cells3
  have BB2 := Lib.hid (BB.out.trans (hb3.mono BB.out.size))
  clear hb3 hc
  go_wp2_with fail
  refine bodyPost_ret (v := .tuple #[.agg #[.int .i64 0, .int .i64 x, .int .i64 y], .int .i64 0]) (by simp [results, Tryd.f28, go_sem, *]) rfl ?_
  refine ⟨rfl, ?_⟩
  repeat (refine Below.setCell ?_ o1 _)
  exact BB2.out
set_option maxRecDepth 100000 in
set_option maxHeartbeats 1600000 in
theorem read_step00n (l : List UInt8) (w : World) (hl : l.length ≤ 3000) (a b : List UInt8) (hw : wordsF l = [[115, 116, 101, 112], a, b]) (hal : a.length ≤ 3000) (hbl : b.length ≤ 3000) (x : Int) (hx : numL a = (x, 0)) (y : Int) (hy : numL b = (y, 0)) (v : Int) (hv : checkL (0, x, y) = v) (hc : (v != 0) = true)  : Calls Tryd.prog 28 #[.string ⟨l.toArray⟩] w (ReadP (zPk, 3) w) := by
  unfold ReadP pkV
  have HW := Lib.hid (words_any l (w.alloc (.cells #[.int .i64 0, .int .i64 0, .int .i64 0] 37)) hl)
  have HNa := Lib.hid (fun W => number_any a W hal)
  rw [hx] at HNa
  clear hx
  have HNb := Lib.hid (fun W => number_any b W hbl)
  rw [hy] at HNb
  clear hy
  go_enter Tryd.func28, Tryd.ntmps28
  go_wp2_with fail
  refine HW.out.mono ?_
  rintro e w1 ⟨v, rfl, hr, hb⟩
  rw [hw] at hr
  obtain ⟨g, cap, rfl, hgB, hgl, hcs⟩ := hr.cells (by simp)
  have D := Lib.hid (RD.mk' hb hgB hgl hcs)
  obtain ⟨b0, hb0⟩ : ∃ b, w.heap.size = b := ⟨_, rfl⟩
  obtain ⟨bp, hbp⟩ : ∃ b, w1.heap.size = b := ⟨_, rfl⟩
  obtain ⟨W, hW⟩ : ∃ W, w1.alloc (.cells #[.int .i64 0, .int .i64 0, .int .i64 0] 37) = W := ⟨_, rfl⟩
  rw [hb0, hbp, hW] at D
  have HB0 := Lib.hid hb0
  clear HW hr hb hgB hgl hcs
  go_upto_region 3 with fail
  clear hb0 hbp hW
  obtain ⟨o1, o2, o3, o4⟩ := D.out.o
  have n1 : b0 ≠ bp := by omega
  have ob : w.heap.size ≤ bp := by omega
  have n2 : bp ≠ b0 := by omega
  have n3 : g ≠ bp := by omega
  have n4 : bp ≠ g := by omega
  have n5 : g ≠ b0 := fun x => o4 x.symm
  obtain ⟨⟨r0, r1, r2⟩, rf0, rf1, rf2⟩ := D.out.r.cells3
  obtain ⟨⟨p0, p1, p2⟩, pf0, pf1, pf2⟩ := D.out.p.cells3
  have s0 := D.out.s 0 (by simp)
  have s1 := D.out.s 1 (by simp)
  have s2 := D.out.s 2 (by simp)
  simp only [List.getD_cons_zero, List.getD_cons_succ] at s0 s1 s2
  obtain ⟨d, hd⟩ : ∃ d : ByteArray, (⟨([115, 116, 101, 112] : List UInt8).toArray⟩ : ByteArray) = d := ⟨_, rfl⟩
  have hdl : d.toList = [115, 116, 101, 112] := by rw [← hd, ByteArray.toList_eq]
  rw [hd] at s0
  have q0 : (d.toList == ([115, 116, 101, 112] : List UInt8)) = true := by rw [hdl]; rfl
  have q1 : (d.toList == ([115, 116, 111, 112] : List UInt8)) = false := by rw [hdl]; rfl
  have q2 : (d.toList == ([99, 114, 97, 115, 104] : List UInt8)) = false := by rw [hdl]; rfl
  clear hd hdl
  go_wp2_with fail
  refine wp_loop_rounds 3 ?_
  rw [rounds_succ]
  go_wp2_with fail
  refine (HNa.out _).mono ?_
  rintro e w2 ⟨rfl, rfl⟩
  go_wp2_with fail
  rw [rounds_succ]
  go_wp2_with fail
  refine (HNb.out _).mono ?_
  rintro e w2 ⟨rfl, rfl⟩
  go_wp2_with fail
  rw [rounds_succ]
  go_wp2_with fail
  have BR := Lib.hid (((D.out.r.other n1 0 (.int .i64 0)).other n1 1 (.int .i64 x)).other n1 2 (.int .i64 y))
  have BP : Hid (Box (((W.setCell ⟨bp, 0, none⟩ (.int .i64 0)).setCell ⟨bp, 1, none⟩ (.int .i64 x)).setCell ⟨bp, 2, none⟩ (.int .i64 y)) bp #[.int .i64 0, .int .i64 x, .int .i64 y] 37) := Lib.hid (by simpa using (((D.out.p.set 0 (.int .i64 0)).set 1 (.int .i64 x)).set 2 (.int .i64 y)))
  have BB := Lib.hid (((D.out.b.setCell (p := ⟨bp, 0, none⟩) ob (.int .i64 0)).setCell (p := ⟨bp, 1, none⟩) ob (.int .i64 x)).setCell (p := ⟨bp, 2, none⟩) ob (.int .i64 y))
  obtain ⟨V, hV⟩ : ∃ V, (((W.setCell ⟨bp, 0, none⟩ (.int .i64 0)).setCell ⟨bp, 1, none⟩ (.int .i64 x)).setCell ⟨bp, 2, none⟩ (.int .i64 y)) = V := ⟨_, rfl⟩
  rw [hV] at BR BP BB
  simp only [hV]
  clear hV r0 r1 r2 rf0 rf1 rf2 p0 p1 p2 pf0 pf1 pf2 s0 s1 s2 D
  refine (rcheck_any 0 x y _).mono ?_
  rintro e w3 ⟨rfl, hb3⟩
  rw [hv]
  obtain ⟨⟨r0, r1, r2⟩, rf0, rf1, rf2⟩ := (BR.out.below hb3).cells3
  obtain ⟨⟨p0, p1, p2⟩, pf0, pf1, pf2⟩ := (BP.out.below hb3).cells3
  have BB2 := Lib.hid (BB.out.trans (hb3.mono BB.out.size))
  clear hb3 hv
  go_wp2_with fail
  refine bodyPost_ret (v := .tuple #[.agg #[.int .i64 0, .int .i64 0, .int .i64 0], .int .i64 3]) (by simp [results, Tryd.f28, go_sem, *]) rfl ?_
  refine ⟨rfl, ?_⟩
  repeat (refine Below.setCell ?_ o1 _)
  exact BB2.out
set_option maxRecDepth 100000 in
set_option maxHeartbeats 1600000 in
theorem read_step03 (l : List UInt8) (w : World) (hl : l.length ≤ 3000) (a b : List UInt8) (hw : wordsF l = [[115, 116, 101, 112], a, b]) (hal : a.length ≤ 3000) (hbl : b.length ≤ 3000) (x : Int) (hx : numL a = (x, 0)) (y : Int) (hy : numL b = (y, 3))  : Calls Tryd.prog 28 #[.string ⟨l.toArray⟩] w (ReadP (zPk, 3) w) := by
  unfold ReadP pkV
  have HW := Lib.hid (words_any l (w.alloc (.cells #[.int .i64 0, .int .i64 0, .int .i64 0] 37)) hl)
  have HNa := Lib.hid (fun W => number_any a W hal)
  rw [hx] at HNa
  clear hx
  have HNb := Lib.hid (fun W => number_any b W hbl)
  rw [hy] at HNb
  clear hy
  go_enter Tryd.func28, Tryd.ntmps28
  go_wp2_with fail
  refine HW.out.mono ?_
  rintro e w1 ⟨v, rfl, hr, hb⟩
  rw [hw] at hr
  obtain ⟨g, cap, rfl, hgB, hgl, hcs⟩ := hr.cells (by simp)
  have D := Lib.hid (RD.mk' hb hgB hgl hcs)
  obtain ⟨b0, hb0⟩ : ∃ b, w.heap.size = b := ⟨_, rfl⟩
  obtain ⟨bp, hbp⟩ : ∃ b, w1.heap.size = b := ⟨_, rfl⟩
  obtain ⟨W, hW⟩ : ∃ W, w1.alloc (.cells #[.int .i64 0, .int .i64 0, .int .i64 0] 37) = W := ⟨_, rfl⟩
  rw [hb0, hbp, hW] at D
  have HB0 := Lib.hid hb0
  clear HW hr hb hgB hgl hcs
  go_upto_region 3 with fail
  clear hb0 hbp hW
  obtain ⟨o1, o2, o3, o4⟩ := D.out.o
  have n1 : b0 ≠ bp := by omega
  have ob : w.heap.size ≤ bp := by omega
  have n2 : bp ≠ b0 := by omega
  have n3 : g ≠ bp := by omega
  have n4 : bp ≠ g := by omega
  have n5 : g ≠ b0 := fun x => o4 x.symm
  obtain ⟨⟨r0, r1, r2⟩, rf0, rf1, rf2⟩ := D.out.r.cells3
  obtain ⟨⟨p0, p1, p2⟩, pf0, pf1, pf2⟩ := D.out.p.cells3
  have s0 := D.out.s 0 (by simp)
  have s1 := D.out.s 1 (by simp)
  have s2 := D.out.s 2 (by simp)
  simp only [List.getD_cons_zero, List.getD_cons_succ] at s0 s1 s2
  obtain ⟨d, hd⟩ : ∃ d : ByteArray, (⟨([115, 116, 101, 112] : List UInt8).toArray⟩ : ByteArray) = d := ⟨_, rfl⟩
  have hdl : d.toList = [115, 116, 101, 112] := by rw [← hd, ByteArray.toList_eq]
  rw [hd] at s0
  have q0 : (d.toList == ([115, 116, 101, 112] : List UInt8)) = true := by rw [hdl]; rfl
  have q1 : (d.toList == ([115, 116, 111, 112] : List UInt8)) = false := by rw [hdl]; rfl
  have q2 : (d.toList == ([99, 114, 97, 115, 104] : List UInt8)) = false := by rw [hdl]; rfl
  clear hd hdl
  go_wp2_with fail
  refine wp_loop_rounds 3 ?_
  rw [rounds_succ]
  go_wp2_with fail
  refine (HNa.out _).mono ?_
  rintro e w2 ⟨rfl, rfl⟩
  go_wp2_with fail
  rw [rounds_succ]
  go_wp2_with fail
  refine (HNb.out _).mono ?_
  rintro e w2 ⟨rfl, rfl⟩
  go_wp2_with fail
  rw [rounds_succ]
  go_wp2_with fail
  refine bodyPost_ret (v := .tuple #[.agg #[.int .i64 0, .int .i64 0, .int .i64 0], .int .i64 3]) (by simp [results, Tryd.f28, go_sem, *]) rfl ?_
  refine ⟨rfl, ?_⟩
  repeat (refine Below.setCell ?_ (by first | exact o1 | exact ob) _)
  exact D.out.b
set_option maxRecDepth 100000 in
set_option maxHeartbeats 1600000 in
theorem read_step30 (l : List UInt8) (w : World) (hl : l.length ≤ 3000) (a b : List UInt8) (hw : wordsF l = [[115, 116, 101, 112], a, b]) (hal : a.length ≤ 3000) (hbl : b.length ≤ 3000) (x : Int) (hx : numL a = (x, 3)) (y : Int) (hy : numL b = (y, 0))  : Calls Tryd.prog 28 #[.string ⟨l.toArray⟩] w (ReadP (zPk, 3) w) := by
  unfold ReadP pkV
  have HW := Lib.hid (words_any l (w.alloc (.cells #[.int .i64 0, .int .i64 0, .int .i64 0] 37)) hl)
  have HNa := Lib.hid (fun W => number_any a W hal)
  rw [hx] at HNa
  clear hx
  have HNb := Lib.hid (fun W => number_any b W hbl)
  rw [hy] at HNb
  clear hy
  go_enter Tryd.func28, Tryd.ntmps28
  go_wp2_with fail
  refine HW.out.mono ?_
  rintro e w1 ⟨v, rfl, hr, hb⟩
  rw [hw] at hr
  obtain ⟨g, cap, rfl, hgB, hgl, hcs⟩ := hr.cells (by simp)
  have D := Lib.hid (RD.mk' hb hgB hgl hcs)
  obtain ⟨b0, hb0⟩ : ∃ b, w.heap.size = b := ⟨_, rfl⟩
  obtain ⟨bp, hbp⟩ : ∃ b, w1.heap.size = b := ⟨_, rfl⟩
  obtain ⟨W, hW⟩ : ∃ W, w1.alloc (.cells #[.int .i64 0, .int .i64 0, .int .i64 0] 37) = W := ⟨_, rfl⟩
  rw [hb0, hbp, hW] at D
  have HB0 := Lib.hid hb0
  clear HW hr hb hgB hgl hcs
  go_upto_region 3 with fail
  clear hb0 hbp hW
  obtain ⟨o1, o2, o3, o4⟩ := D.out.o
  have n1 : b0 ≠ bp := by omega
  have ob : w.heap.size ≤ bp := by omega
  have n2 : bp ≠ b0 := by omega
  have n3 : g ≠ bp := by omega
  have n4 : bp ≠ g := by omega
  have n5 : g ≠ b0 := fun x => o4 x.symm
  obtain ⟨⟨r0, r1, r2⟩, rf0, rf1, rf2⟩ := D.out.r.cells3
  obtain ⟨⟨p0, p1, p2⟩, pf0, pf1, pf2⟩ := D.out.p.cells3
  have s0 := D.out.s 0 (by simp)
  have s1 := D.out.s 1 (by simp)
  have s2 := D.out.s 2 (by simp)
  simp only [List.getD_cons_zero, List.getD_cons_succ] at s0 s1 s2
  obtain ⟨d, hd⟩ : ∃ d : ByteArray, (⟨([115, 116, 101, 112] : List UInt8).toArray⟩ : ByteArray) = d := ⟨_, rfl⟩
  have hdl : d.toList = [115, 116, 101, 112] := by rw [← hd, ByteArray.toList_eq]
  rw [hd] at s0
  have q0 : (d.toList == ([115, 116, 101, 112] : List UInt8)) = true := by rw [hdl]; rfl
  have q1 : (d.toList == ([115, 116, 111, 112] : List UInt8)) = false := by rw [hdl]; rfl
  have q2 : (d.toList == ([99, 114, 97, 115, 104] : List UInt8)) = false := by rw [hdl]; rfl
  clear hd hdl
  go_wp2_with fail
  refine wp_loop_rounds 3 ?_
  rw [rounds_succ]
  go_wp2_with fail
  refine (HNa.out _).mono ?_
  rintro e w2 ⟨rfl, rfl⟩
  go_wp2_with fail
  rw [rounds_succ]
  go_wp2_with fail
  refine (HNb.out _).mono ?_
  rintro e w2 ⟨rfl, rfl⟩
  go_wp2_with fail
  rw [rounds_succ]
  go_wp2_with fail
  refine bodyPost_ret (v := .tuple #[.agg #[.int .i64 0, .int .i64 0, .int .i64 0], .int .i64 3]) (by simp [results, Tryd.f28, go_sem, *]) rfl ?_
  refine ⟨rfl, ?_⟩
  repeat (refine Below.setCell ?_ (by first | exact o1 | exact ob) _)
  exact D.out.b
set_option maxRecDepth 100000 in
set_option maxHeartbeats 1600000 in
theorem read_step33 (l : List UInt8) (w : World) (hl : l.length ≤ 3000) (a b : List UInt8) (hw : wordsF l = [[115, 116, 101, 112], a, b]) (hal : a.length ≤ 3000) (hbl : b.length ≤ 3000) (x : Int) (hx : numL a = (x, 3)) (y : Int) (hy : numL b = (y, 3))  : Calls Tryd.prog 28 #[.string ⟨l.toArray⟩] w (ReadP (zPk, 3) w) := by
  unfold ReadP pkV
  have HW := Lib.hid (words_any l (w.alloc (.cells #[.int .i64 0, .int .i64 0, .int .i64 0] 37)) hl)
  have HNa := Lib.hid (fun W => number_any a W hal)
  rw [hx] at HNa
  clear hx
  have HNb := Lib.hid (fun W => number_any b W hbl)
  rw [hy] at HNb
  clear hy
  go_enter Tryd.func28, Tryd.ntmps28
  go_wp2_with fail
  refine HW.out.mono ?_
  rintro e w1 ⟨v, rfl, hr, hb⟩
  rw [hw] at hr
  obtain ⟨g, cap, rfl, hgB, hgl, hcs⟩ := hr.cells (by simp)
  have D := Lib.hid (RD.mk' hb hgB hgl hcs)
  obtain ⟨b0, hb0⟩ : ∃ b, w.heap.size = b := ⟨_, rfl⟩
  obtain ⟨bp, hbp⟩ : ∃ b, w1.heap.size = b := ⟨_, rfl⟩
  obtain ⟨W, hW⟩ : ∃ W, w1.alloc (.cells #[.int .i64 0, .int .i64 0, .int .i64 0] 37) = W := ⟨_, rfl⟩
  rw [hb0, hbp, hW] at D
  have HB0 := Lib.hid hb0
  clear HW hr hb hgB hgl hcs
  go_upto_region 3 with fail
  clear hb0 hbp hW
  obtain ⟨o1, o2, o3, o4⟩ := D.out.o
  have n1 : b0 ≠ bp := by omega
  have ob : w.heap.size ≤ bp := by omega
  have n2 : bp ≠ b0 := by omega
  have n3 : g ≠ bp := by omega
  have n4 : bp ≠ g := by omega
  have n5 : g ≠ b0 := fun x => o4 x.symm
  obtain ⟨⟨r0, r1, r2⟩, rf0, rf1, rf2⟩ := D.out.r.cells3
  obtain ⟨⟨p0, p1, p2⟩, pf0, pf1, pf2⟩ := D.out.p.cells3
  have s0 := D.out.s 0 (by simp)
  have s1 := D.out.s 1 (by simp)
  have s2 := D.out.s 2 (by simp)
  simp only [List.getD_cons_zero, List.getD_cons_succ] at s0 s1 s2
  obtain ⟨d, hd⟩ : ∃ d : ByteArray, (⟨([115, 116, 101, 112] : List UInt8).toArray⟩ : ByteArray) = d := ⟨_, rfl⟩
  have hdl : d.toList = [115, 116, 101, 112] := by rw [← hd, ByteArray.toList_eq]
  rw [hd] at s0
  have q0 : (d.toList == ([115, 116, 101, 112] : List UInt8)) = true := by rw [hdl]; rfl
  have q1 : (d.toList == ([115, 116, 111, 112] : List UInt8)) = false := by rw [hdl]; rfl
  have q2 : (d.toList == ([99, 114, 97, 115, 104] : List UInt8)) = false := by rw [hdl]; rfl
  clear hd hdl
  go_wp2_with fail
  refine wp_loop_rounds 3 ?_
  rw [rounds_succ]
  go_wp2_with fail
  refine (HNa.out _).mono ?_
  rintro e w2 ⟨rfl, rfl⟩
  go_wp2_with fail
  rw [rounds_succ]
  go_wp2_with fail
  refine (HNb.out _).mono ?_
  rintro e w2 ⟨rfl, rfl⟩
  go_wp2_with fail
  rw [rounds_succ]
  go_wp2_with fail
  refine bodyPost_ret (v := .tuple #[.agg #[.int .i64 0, .int .i64 0, .int .i64 0], .int .i64 3]) (by simp [results, Tryd.f28, go_sem, *]) rfl ?_
  refine ⟨rfl, ?_⟩
  repeat (refine Below.setCell ?_ (by first | exact o1 | exact ob) _)
  exact D.out.b
theorem num_three (l : List UInt8) : ∃ x, numL l = (x, 5) ∨ numL l = (x, 3) ∨ numL l = (x, 0) := by
  refine ⟨(numL l).1, ?_⟩
  cases h : canL l
  · exact .inl (Prod.ext rfl (by rw [num_no h]))
  · rcases num_code h with h | h
    · exact .inr (.inr (Prod.ext rfl h))
    · exact .inr (.inl (Prod.ext rfl h))
theorem readW_one (h : List UInt8) : readW [h] = (zPk, 5) := rfl
theorem readW_more (h a b c : List UInt8) (t : List (List UInt8)) : readW (h :: a :: b :: c :: t) = (zPk, 5) := rfl
theorem joinW_len : ∀ (ws : List (List UInt8)), ∀ x ∈ ws, x.length ≤ (joinW ws).length
  | [], x, h => by cases h
  | [y], x, h => by
    rw [List.mem_singleton] at h
    subst h
    simp [joinW]
  | y :: z :: t, x, h => by
    rcases List.mem_cons.1 h with rfl | h
    · simp [joinW]; try omega
    · have := joinW_len (z :: t) x h
      simp only [joinW, List.length_append, List.length_cons] at this ⊢
      omega
theorem wordsF_len (l : List UInt8) : (wordsF l).length ≤ l.length + 1 := by
  have : ∀ (l : List UInt8) (acc : List (List UInt8)), acc ≠ [] → (l.foldl stepW acc).length ≤ acc.length + l.length := by
    intro l
    induction l with
    | nil => intro acc _; simp
    | cons c l ih =>
      intro acc ha
      rw [List.foldl_cons]
      have h1 : (stepW acc c).length ≤ acc.length + 1 ∧ stepW acc c ≠ [] := by
        unfold stepW
        split
        · simp
        · have := List.length_pos_iff.2 ha
          simp; try omega
      have := ih _ h1.2
      simp only [List.length_cons]
      omega
  have := this l [[]] (by simp)
  unfold wordsF
  simp only [List.length_cons, List.length_nil] at this
  omega
theorem checkTwo (p : Pk) : checkL p = 0 ∨ ∃ v, checkL p = v ∧ (v != 0) = true := by
  by_cases h : checkL p = 0
  · exact .inl h
  · exact .inr ⟨_, rfl, by rw [bne_iff_ne]; exact h⟩
theorem one_two {ws : List (List UInt8)} (hn : ws ≠ []) (h2 : ws.length ≠ 2) (h3 : ws.length ≠ 3) : readW ws = (zPk, 5) := by
  match ws, hn, h2, h3 with
  | [], h, _, _ => exact absurd rfl h
  | [_], _, _, _ => rfl
  | [_, _], _, h, _ => exact absurd rfl h
  | [_, _, _], _, _, h => exact absurd rfl h
  | _ :: _ :: _ :: _ :: _, _, _, _ => rfl
theorem read_any (l : List UInt8) (w : World) (hl : l.length ≤ 3000) : Calls Tryd.prog 28 #[.string ⟨l.toArray⟩] w (ReadP (readW (wordsF l)) w) := by
  have hne := wordsF_ne l
  have hlen := wordsF_len l
  have hin : ∀ x ∈ wordsF l, x.length ≤ 3000 := fun x hx => by
    have := joinW_len _ x hx
    rw [join_words l.length l (Nat.le_refl _)] at this
    omega
  obtain ⟨ws, hw⟩ : ∃ ws, wordsF l = ws := ⟨_, rfl⟩
  rw [hw] at hne hlen hin ⊢
  match ws, hne with
  | h :: t, _ =>
    have hn : (h :: t).length ≤ 3001 := by omega
    by_cases h0 : h = [115, 116, 101, 112]
    · subst h0
      by_cases hk : ([115, 116, 101, 112] :: t).length = 3
      · match t, hk with
        | [a, b], _ =>
          have ha := hin a (by simp)
          have hb := hin b (by simp)
          obtain ⟨x, hx⟩ := num_three a
          obtain ⟨y, hy⟩ := num_three b
          have e : readW [[115, 116, 101, 112], a, b] = if (numL a).2 = 5 ∨ (numL b).2 = 5 then (zPk, 5) else endR 0 (numL a).1 (numL b).1 (if (numL b).2 ≠ 0 then (numL b).2 else (numL a).2) := rfl
          rw [e]
          rcases hx with hx | hx | hx
          · rw [hx]; exact read_step5 l w hl a b hw ha hb x hx
          · rcases hy with hy | hy | hy
            · rw [hx, hy]; exact read_step35 l w hl a b hw ha hb x hx y hy
            · rw [hx, hy]; exact read_step33 l w hl a b hw ha hb x hx y hy
            · rw [hx, hy]; exact read_step30 l w hl a b hw ha hb x hx y hy
          · rcases hy with hy | hy | hy
            · rw [hx, hy]; exact read_step05 l w hl a b hw ha hb x hx y hy
            · rw [hx, hy]; exact read_step03 l w hl a b hw ha hb x hx y hy
            · rw [hx, hy]
              rcases checkTwo (0, x, y) with hc | ⟨v, hv, hc⟩
              · rw [show (if ((x, (0 : Int)).2 = 5 ∨ (y, (0 : Int)).2 = 5) then (zPk, (5 : Int)) else endR 0 (x, (0 : Int)).1 (y, (0 : Int)).1 (if (y, (0 : Int)).2 ≠ 0 then (y, (0 : Int)).2 else (x, (0 : Int)).2)) = ((0, x, y), 0) by simp [endR, hc]]
                exact read_step00 l w hl a b hw ha hb x hx y hy hc
              · have hv0 : ¬ v = 0 := by simpa using hc
                rw [show (if ((x, (0 : Int)).2 = 5 ∨ (y, (0 : Int)).2 = 5) then (zPk, (5 : Int)) else endR 0 (x, (0 : Int)).1 (y, (0 : Int)).1 (if (y, (0 : Int)).2 ≠ 0 then (y, (0 : Int)).2 else (x, (0 : Int)).2)) = (zPk, 3) by simp [endR, hv, hv0]]
                exact read_step00n l w hl a b hw ha hb x hx y hy v hv hc
      · have e : readW ([115, 116, 101, 112] :: t) = (zPk, 5) := by
          match t, hk with
          | [], _ => rfl
          | [_], _ => rfl
          | [_, _], h => exact absurd rfl h
          | _ :: _ :: _ :: _, _ => rfl
        rw [e]
        exact read_no_step l w hl t hw hn hk
    · by_cases h1 : h = [115, 116, 111, 112]
      · subst h1
        by_cases hk : ([115, 116, 111, 112] :: t).length = 2
        · match t, hk with
          | [a], _ =>
            have ha := hin a (by simp)
            obtain ⟨x, hx⟩ := num_three a
            have e : readW [[115, 116, 111, 112], a] = if (numL a).2 = 5 then (zPk, 5) else endR 1 (numL a).1 0 (numL a).2 := rfl
            rw [e]
            rcases hx with hx | hx | hx
            · rw [hx]; exact read_stop5 l w hl a hw ha x hx
            · rw [hx]; exact read_stop3 l w hl a hw ha x hx
            · rw [hx]
              rcases checkTwo (1, x, 0) with hc | ⟨v, hv, hc⟩
              · have e2 : (if (x, (0 : Int)).2 = 5 then (zPk, (5 : Int)) else endR 1 x 0 0) = ((1, x, 0), 0) := by simp [endR, hc]
                refine Calls.mono (read_stop0 l w hl a hw ha x hx hc) ?_
                rw [← e2]
                exact fun _ _ h => h
              · have hv0 : ¬ v = 0 := by simpa using hc
                have e2 : (if (x, (0 : Int)).2 = 5 then (zPk, (5 : Int)) else endR 1 x 0 0) = (zPk, 3) := by simp [endR, hv, hv0]
                refine Calls.mono (read_stop0n l w hl a hw ha x hx v hv hc) ?_
                rw [← e2]
                exact fun _ _ h => h
        · have e : readW ([115, 116, 111, 112] :: t) = (zPk, 5) := by
            match t, hk with
            | [], _ => rfl
            | [_], h => exact absurd rfl h
            | [_, _], _ => rfl
            | _ :: _ :: _ :: _, _ => rfl
          rw [e]
          exact read_no_stop l w hl t hw hn hk
      · by_cases h2 : h = [99, 114, 97, 115, 104]
        · subst h2
          by_cases hk : ([99, 114, 97, 115, 104] :: t).length = 2
          · match t, hk with
            | [a], _ =>
              have ha := hin a (by simp)
              obtain ⟨x, hx⟩ := num_three a
              have e : readW [[99, 114, 97, 115, 104], a] = if (numL a).2 = 5 then (zPk, 5) else endR 2 0 (numL a).1 (numL a).2 := rfl
              rw [e]
              rcases hx with hx | hx | hx
              · rw [hx]; exact read_crash5 l w hl a hw ha x hx
              · rw [hx]; exact read_crash3 l w hl a hw ha x hx
              · rw [hx]
                rcases checkTwo (2, 0, x) with hc | ⟨v, hv, hc⟩
                · have e2 : (if (x, (0 : Int)).2 = 5 then (zPk, (5 : Int)) else endR 2 0 x 0) = ((2, 0, x), 0) := by simp [endR, hc]
                  refine Calls.mono (read_crash0 l w hl a hw ha x hx hc) ?_
                  rw [← e2]
                  exact fun _ _ h => h
                · have hv0 : ¬ v = 0 := by simpa using hc
                  have e2 : (if (x, (0 : Int)).2 = 5 then (zPk, (5 : Int)) else endR 2 0 x 0) = (zPk, 3) := by simp [endR, hv, hv0]
                  refine Calls.mono (read_crash0n l w hl a hw ha x hx v hv hc) ?_
                  rw [← e2]
                  exact fun _ _ h => h
          · have e : readW ([99, 114, 97, 115, 104] :: t) = (zPk, 5) := by
              match t, hk with
              | [], _ => rfl
              | [_], h => exact absurd rfl h
              | [_, _], _ => rfl
              | _ :: _ :: _ :: _, _ => rfl
            rw [e]
            exact read_no_crash l w hl t hw hn hk
        · have e : readW (h :: t) = (zPk, 5) := by
            match t with
            | [] => rfl
            | [a] => simp [readW, h1, h2]
            | [a, b] => simp [readW, h0]
            | _ :: _ :: _ :: _ => rfl
          rw [e]
          exact read_none l w hl h t hw hn h0 h1 h2
end Go.Proofs.YtpgcnejofnhhfaaDoor
