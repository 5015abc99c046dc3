/- is: a history consists of a word and the described messages. -/
import Derived.Test.YtfkfomefelekcaaChooses
import Derived.Deep.DeepCutAuto
import Derived.Deep.CutBlock
namespace Go.Proofs.Ytfkfomefelekcaa
open Go.RowKit Go.Shelf Go.Maps

theorem Box.cells6 {w : World} {b : Nat} {x0 x1 x2 x3 x4 x5 : Value} {t : TypeId} (h : Box w b #[x0, x1, x2, x3, x4, x5] t) : (w.cell? ⟨b, 0, none⟩ = some x0 ∧ w.cell? ⟨b, 1, none⟩ = some x1 ∧ w.cell? ⟨b, 2, none⟩ = some x2 ∧ w.cell? ⟨b, 3, none⟩ = some x3 ∧ w.cell? ⟨b, 4, none⟩ = some x4 ∧ w.cell? ⟨b, 5, none⟩ = some x5) ∧ w.frozen? ⟨b, 0, none⟩ = false ∧ w.frozen? ⟨b, 1, none⟩ = false ∧ w.frozen? ⟨b, 2, none⟩ = false ∧ w.frozen? ⟨b, 3, none⟩ = false ∧ w.frozen? ⟨b, 4, none⟩ = false ∧ w.frozen? ⟨b, 5, none⟩ = false := ⟨⟨h.cell 0, h.cell 1, h.cell 2, h.cell 3, h.cell 4, h.cell 5⟩, h.free 0, h.free 1, h.free 2, h.free 3, h.free 4, h.free 5⟩
theorem q_zero {q : List MP} {x y z : Int} {l : List One} (hq : q.map (·.1) = msgsOf x y z l) : ∃ p, q[0]? = some (⟨x, y, z, 0, []⟩, p) := by
  cases q with
  | nil => simp [msgsOf] at hq
  | cons a r =>
    simp only [List.map_cons, msgsOf, List.cons.injEq] at hq
    exact ⟨a.2, by rw [← hq.1]; rfl⟩
theorem q_at {q : List MP} {x y z : Int} {l : List One} (hq : q.map (·.1) = msgsOf x y z l) {k : Nat} (hk : k < l.length) : ∃ p, q[k + 1]? = some ((l.getD k zeroOne).msg, p) := by
  have h : (q.map (·.1))[k + 1]? = some (l.getD k zeroOne).msg := by
    rw [hq]; simp [msgsOf, List.getD, hk]
  rw [List.getElem?_map] at h
  cases hx : q[k + 1]? with
  | none => rw [hx] at h; cases h
  | some m =>
    rw [hx] at h
    simp only [Option.map_some, Option.some.injEq] at h
    exact ⟨m.2, by rw [← h]⟩
theorem HW.at {w : World} {v : Value} {q : List MP} (h : HW w v q) {i : Nat} {x : MP} (hx : q[i]? = some x) : VW w x.2 x.1.view := h.1 x (List.mem_of_getElem? hx)

set_option maxRecDepth 100000 in
set_option maxHeartbeats 3200000 in
theorem is_true (hv v : Value) (q : List MP) (x y z : Int) (l : List One) (w : World) (hh : HW w hv q) (hq : q.map (·.1) = msgsOf x y z l) (h : IsOnes w v l) (ho : OnesOk l) (hl : l.length ≤ 1000) :
    Calls Try.prog 12 #[.agg #[hv], .agg #[.int .i64 x, .int .u32 y, .int .u32 z], v] w fun e w' => e = .returned (.bool true) ∧ Below w.heap.size w w' := by
  have hql : q.length = l.length + 1 := by rw [← msgsOf_length x y z l, ← hq, List.length_map]
  obtain ⟨ad, rfl, _⟩ := hh.slice
  obtain ⟨a, cap, rfl⟩ := h.slice
  obtain ⟨n, hn⟩ : ∃ n, l.length = n := ⟨_, rfl⟩
  rw [hql, hn] at hh
  rw [hn] at h hl
  rw [hql, hn]
  rw [hn] at hql
  have HN := Lib.hid hn
  have HQ := Lib.hid hq
  have HO := Lib.hid ho
  have W3 := Lib.hid (Box.alloc (Box.new w #[.slice ad (n + 1) (n + 1)] 29 rfl) (.cells #[.int .i64 x, .int .u32 y, .int .u32 z] 24))
  have W4 := Lib.hid (Box.new (w.alloc (.cells #[.slice ad (n + 1) (n + 1)] 29)) #[.int .i64 x, .int .u32 y, .int .u32 z] 24 (n := w.heap.size + 1) (by simp))
  have H := Lib.hid (hh.below (b2 w (.cells #[.slice ad (n + 1) (n + 1)] 29) (.cells #[.int .i64 x, .int .u32 y, .int .u32 z] 24)))
  have HI := Lib.hid (h.below (b2 w (.cells #[.slice ad (n + 1) (n + 1)] 29) (.cells #[.int .i64 x, .int .u32 y, .int .u32 z] 24)))
  have BB := Lib.hid (b2 w (.cells #[.slice ad (n + 1) (n + 1)] 29) (.cells #[.int .i64 x, .int .u32 y, .int .u32 z] 24))
  have qW := neqW
  clear hh h hq ho hn
  go_enter Try.func12, Try.ntmps12
  go_wp2_with fail
  generalize (w.alloc (.cells #[.slice ad (n + 1) (n + 1)] 29)).alloc (.cells #[.int .i64 x, .int .u32 y, .int .u32 z] 24) = W0 at *
  obtain ⟨b4, hb4⟩ : ∃ br, w.heap.size + 1 = br := ⟨_, rfl⟩
  obtain ⟨b3, hb3⟩ : ∃ bp, w.heap.size = bp := ⟨_, rfl⟩
  rw [hb4] at W4 ⊢
  have hbq := hb3
  rw [hb3] at W3 hb4 ⊢
  refine (len_c _ (n + 1) (n + 1) _).mono ?_
  rintro e a0 ⟨rfl, hb⟩
  have W3' := Lib.hid (W3.out.below (hb))
  have W4' := Lib.hid (W4.out.below (hb))
  have H' := Lib.hid (H.out.below (hb))
  have HI' := Lib.hid (HI.out.below (hb))
  have BB' := Lib.hid (BB.out.trans ((hb).mono BB.out.size))
  clear W3
  have W3 := W3'
  clear W3'
  clear W4
  have W4 := W4'
  clear W4'
  clear H
  have H := H'
  clear H'
  clear HI
  have HI := HI'
  clear HI'
  clear BB
  have BB := BB'
  clear BB'
  clear hb
  have kc0 := W3.out.cells1.1
  go_wp2_with fail
  clear kc0
  obtain ⟨p0, hp0⟩ := q_zero HQ.out
  refine (hat_in _ q 0 _ _ H.out hp0 (by omega)).mono ?_
  rintro e a1 ⟨rfl, hb⟩
  have W3' := Lib.hid (W3.out.below (hb))
  have W4' := Lib.hid (W4.out.below (hb))
  have H' := Lib.hid (H.out.below (hb))
  have HI' := Lib.hid (HI.out.below (hb))
  have BB' := Lib.hid (BB.out.trans ((hb).mono BB.out.size))
  clear W3
  have W3 := W3'
  clear W3'
  clear W4
  have W4 := W4'
  clear W4'
  clear H
  have H := H'
  clear H'
  clear HI
  have HI := HI'
  clear HI'
  clear BB
  have BB := BB'
  clear BB'
  clear hb
  simp only [msgV]
  have P0 := Lib.hid (H.out.at hp0)
  simp only at P0
  go_upto_region 4 with fail
  have hlt_b7 := BB.out.size
  have hlt_b7_W3 := W3.out.lt
  have hlt_b7_W4 := W4.out.lt
  have W3' := Lib.hid (W3.out.below (below_new a1 (.cells #[.int .i64 x, .int .u32 y, .int .u32 z, .int .i64 0, .map p0] 38)))
  have W4' := Lib.hid (W4.out.below (below_new a1 (.cells #[.int .i64 x, .int .u32 y, .int .u32 z, .int .i64 0, .map p0] 38)))
  have H' := Lib.hid (H.out.below (below_new a1 (.cells #[.int .i64 x, .int .u32 y, .int .u32 z, .int .i64 0, .map p0] 38)))
  have HI' := Lib.hid (HI.out.below (below_new a1 (.cells #[.int .i64 x, .int .u32 y, .int .u32 z, .int .i64 0, .map p0] 38)))
  have P0' := Lib.hid (P0.out.below (below_new a1 (.cells #[.int .i64 x, .int .u32 y, .int .u32 z, .int .i64 0, .map p0] 38)))
  have BB' := Lib.hid (BB.out.trans ((below_new a1 (.cells #[.int .i64 x, .int .u32 y, .int .u32 z, .int .i64 0, .map p0] 38)).mono BB.out.size))
  clear W3
  have W3 := W3'
  clear W3'
  clear W4
  have W4 := W4'
  clear W4'
  clear H
  have H := H'
  clear H'
  clear HI
  have HI := HI'
  clear HI'
  clear P0
  have P0 := P0'
  clear P0'
  clear BB
  have BB := BB'
  clear BB'
  have B7 := Lib.hid (Box.new a1 #[.int .i64 x, .int .u32 y, .int .u32 z, .int .i64 0, .map p0] 38 rfl)
  have hsz_b7 : (World.alloc a1 (.cells #[.int .i64 x, .int .u32 y, .int .u32 z, .int .i64 0, .map p0] 38)).heap.size = (World.heap a1).size + 1 := by simp
  generalize World.alloc a1 (.cells #[.int .i64 x, .int .u32 y, .int .u32 z, .int .i64 0, .map p0] 38) = a2 at *
  generalize World.heap a1 = hp_b7 at *
  generalize hp_b7.size = b7 at *
  obtain ⟨⟨k0, k1, k2⟩, -⟩ := W4.out.cells3
  obtain ⟨⟨m0, m1, m2, m3, m4⟩, -⟩ := B7.out.cells5
  go_wp2_with fail
  clear k0 k1 k2 m0 m1 m2 m3 m4
  refine (same_any p0 none [] [] _ P0.out (VW.nil _)).mono ?_
  rintro e a3 ⟨rfl, hb⟩
  have W3' := Lib.hid (W3.out.below (hb))
  have W4' := Lib.hid (W4.out.below (hb))
  have H' := Lib.hid (H.out.below (hb))
  have HI' := Lib.hid (HI.out.below (hb))
  have P0' := Lib.hid (P0.out.below (hb))
  have B7' := Lib.hid (B7.out.below (hb))
  have BB' := Lib.hid (BB.out.trans ((hb).mono BB.out.size))
  clear W3
  have W3 := W3'
  clear W3'
  clear W4
  have W4 := W4'
  clear W4'
  clear H
  have H := H'
  clear H'
  clear HI
  have HI := HI'
  clear HI'
  clear P0
  have P0 := P0'
  clear P0'
  clear B7
  have B7 := B7'
  clear B7'
  clear BB
  have BB := BB'
  clear BB'
  clear hb
  rw [decide_eq_true (rfl : ([] : List (Int × Int)) = [])]
  go_wp2_with fail
  go_loopw [46] (fun iv wr => ∃ k : Nat, k ≤ n ∧ iv = .int .i64 k ∧ Box wr b3 #[.slice ad (n + 1) (n + 1)] 29 ∧ HW wr (.slice ad (n + 1) (n + 1)) q ∧ IsOnes wr (.slice a n cap) l ∧ Below w.heap.size w wr) (fun iv _ => n - (intOf iv).toNat)
  case atStart => exact ⟨0, by omega, by simp, W3.out, H.out, HI.out, BB.out⟩
  case round =>
    obtain ⟨k, hk, rfl, W3', H', HI', BB'⟩ := hrel
    clear W3 W4 P0 B7 H HI BB
    have W3 := Lib.hid W3'
    have H := Lib.hid H'
    have HI := Lib.hid HI'
    have BB := Lib.hid BB'
    clear W3' H' HI' BB'
    by_cases hlt : k < n
    · skip
      rcases HI.out with ⟨a', cap', he, hl0⟩ | ⟨bo, off, cap', he, hbo, hco⟩
      · exfalso; have hz := HN.out; rw [hl0] at hz; simp at hz; omega
      obtain ⟨c0, c1, c2, c3, c4, c5⟩ := hco k (by rw [HN.out]; exact hlt)
      have OO := Lib.hid (onesOk_at HO.out (i := k) (by rw [HN.out]; exact hlt))
      obtain ⟨p1, hp1⟩ := q_at HQ.out (k := k) (by rw [HN.out]; exact hlt)
      clear hco
      generalize l.getD k zeroOne = o at *
      rw [HN.out] at he
      simp only [Value.slice.injEq] at he
      obtain ⟨rfl, -, rfl⟩ := he
      go_upto_region 9 with fail
      clear c0 c1 c2 c3 c4 c5
      have hlt_b10 := BB.out.size
      have hlt_b10_W3 := W3.out.lt
      have W3' := Lib.hid (W3.out.below (below_new wr (.cells #[.int .i64 o.val, .int .u32 o.ver, .int .u32 o.ref, .int .i64 o.thr, .int .u8 o.at_, .int .u8 o.known] 32)))
      have H' := Lib.hid (H.out.below (below_new wr (.cells #[.int .i64 o.val, .int .u32 o.ver, .int .u32 o.ref, .int .i64 o.thr, .int .u8 o.at_, .int .u8 o.known] 32)))
      have HI' := Lib.hid (HI.out.below (below_new wr (.cells #[.int .i64 o.val, .int .u32 o.ver, .int .u32 o.ref, .int .i64 o.thr, .int .u8 o.at_, .int .u8 o.known] 32)))
      have BB' := Lib.hid (BB.out.trans ((below_new wr (.cells #[.int .i64 o.val, .int .u32 o.ver, .int .u32 o.ref, .int .i64 o.thr, .int .u8 o.at_, .int .u8 o.known] 32)).mono BB.out.size))
      clear W3
      have W3 := W3'
      clear W3'
      clear H
      have H := H'
      clear H'
      clear HI
      have HI := HI'
      clear HI'
      clear BB
      have BB := BB'
      clear BB'
      have B10 := Lib.hid (Box.new wr #[.int .i64 o.val, .int .u32 o.ver, .int .u32 o.ref, .int .i64 o.thr, .int .u8 o.at_, .int .u8 o.known] 32 rfl)
      have hsz_b10 : (World.alloc wr (.cells #[.int .i64 o.val, .int .u32 o.ver, .int .u32 o.ref, .int .i64 o.thr, .int .u8 o.at_, .int .u8 o.known] 32)).heap.size = (World.heap wr).size + 1 := by simp
      generalize World.alloc wr (.cells #[.int .i64 o.val, .int .u32 o.ver, .int .u32 o.ref, .int .i64 o.thr, .int .u8 o.at_, .int .u8 o.known] 32) = a50 at *
      generalize World.heap wr = hp_b10 at *
      generalize hp_b10.size = b10 at *
      have kc0 := W3.out.cells1.1
      go_wp2_with fail
      clear kc0
      rw [show ((k : Int) + 1) = ((k + 1 : Nat) : Int) by simp]
      refine (hat_in _ q (k + 1) _ _ H.out hp1 (by omega)).mono ?_
      rintro e a51 ⟨rfl, hb⟩
      have W3' := Lib.hid (W3.out.below (hb))
      have H' := Lib.hid (H.out.below (hb))
      have HI' := Lib.hid (HI.out.below (hb))
      have B10' := Lib.hid (B10.out.below (hb))
      have BB' := Lib.hid (BB.out.trans ((hb).mono BB.out.size))
      clear W3
      have W3 := W3'
      clear W3'
      clear H
      have H := H'
      clear H'
      clear HI
      have HI := HI'
      clear HI'
      clear B10
      have B10 := B10'
      clear B10'
      clear BB
      have BB := BB'
      clear BB'
      clear hb
      simp only [msgV, One.msg]
      have P1 := Lib.hid (H.out.at hp1)
      go_upto_region 10 with fail
      have hlt_b11 := BB.out.size
      have hlt_b11_W3 := W3.out.lt
      have hlt_b11_B10 := B10.out.lt
      have W3' := Lib.hid (W3.out.below (below_new a51 (.cells #[.int .i64 o.val, .int .u32 o.ver, .int .u32 o.ref, .int .i64 o.thr, .map p1] 38)))
      have H' := Lib.hid (H.out.below (below_new a51 (.cells #[.int .i64 o.val, .int .u32 o.ver, .int .u32 o.ref, .int .i64 o.thr, .map p1] 38)))
      have HI' := Lib.hid (HI.out.below (below_new a51 (.cells #[.int .i64 o.val, .int .u32 o.ver, .int .u32 o.ref, .int .i64 o.thr, .map p1] 38)))
      have B10' := Lib.hid (B10.out.below (below_new a51 (.cells #[.int .i64 o.val, .int .u32 o.ver, .int .u32 o.ref, .int .i64 o.thr, .map p1] 38)))
      have P1' := Lib.hid (P1.out.below (below_new a51 (.cells #[.int .i64 o.val, .int .u32 o.ver, .int .u32 o.ref, .int .i64 o.thr, .map p1] 38)))
      have BB' := Lib.hid (BB.out.trans ((below_new a51 (.cells #[.int .i64 o.val, .int .u32 o.ver, .int .u32 o.ref, .int .i64 o.thr, .map p1] 38)).mono BB.out.size))
      clear W3
      have W3 := W3'
      clear W3'
      clear H
      have H := H'
      clear H'
      clear HI
      have HI := HI'
      clear HI'
      clear B10
      have B10 := B10'
      clear B10'
      clear P1
      have P1 := P1'
      clear P1'
      clear BB
      have BB := BB'
      clear BB'
      have B11 := Lib.hid (Box.new a51 #[.int .i64 o.val, .int .u32 o.ver, .int .u32 o.ref, .int .i64 o.thr, .map p1] 38 rfl)
      have hsz_b11 : (World.alloc a51 (.cells #[.int .i64 o.val, .int .u32 o.ver, .int .u32 o.ref, .int .i64 o.thr, .map p1] 38)).heap.size = (World.heap a51).size + 1 := by simp
      generalize World.alloc a51 (.cells #[.int .i64 o.val, .int .u32 o.ver, .int .u32 o.ref, .int .i64 o.thr, .map p1] 38) = a52 at *
      generalize World.heap a51 = hp_b11 at *
      generalize hp_b11.size = b11 at *
      obtain ⟨⟨m0, m1, m2, m3, m4⟩, -⟩ := B11.out.cells5
      obtain ⟨⟨k0, k1, k2, k3, k4, k5⟩, -⟩ := B10.out.cells6
      go_wp2_with fail
      clear m0 m1 m2 m3 m4 k0 k1 k2 k3 k4 k5
      refine (one_is o p1 _ OO.out P1.out).mono ?_
      rintro e a53 ⟨rfl, hb⟩
      have W3' := Lib.hid (W3.out.below (hb))
      have H' := Lib.hid (H.out.below (hb))
      have HI' := Lib.hid (HI.out.below (hb))
      have B10' := Lib.hid (B10.out.below (hb))
      have P1' := Lib.hid (P1.out.below (hb))
      have B11' := Lib.hid (B11.out.below (hb))
      have BB' := Lib.hid (BB.out.trans ((hb).mono BB.out.size))
      clear W3
      have W3 := W3'
      clear W3'
      clear H
      have H := H'
      clear H'
      clear HI
      have HI := HI'
      clear HI'
      clear B10
      have B10 := B10'
      clear B10'
      clear P1
      have P1 := P1'
      clear P1'
      clear B11
      have B11 := B11'
      clear B11'
      clear BB
      have BB := BB'
      clear BB'
      clear hb
      go_wp2
      go_roundw
      case rel => exact ⟨k + 1, by omega, by simp, W3.out, H.out, HI.out, BB.out⟩
      case measure => (simp [intOf]; omega)
    · skip
      have he : k = n := by omega
      subst he
      have BB2 := BB.out
      go_wp2
      go_ret
      exact ⟨rfl, BB2⟩
end Go.Proofs.Ytfkfomefelekcaa
