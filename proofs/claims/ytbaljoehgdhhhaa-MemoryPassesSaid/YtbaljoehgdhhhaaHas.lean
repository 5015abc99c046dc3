/- has of the memory laws: whether an address holds a message with a word. -/
import Derived.Test.YtbaljoehgdhhhaaPassPlain
import Derived.Test.YtbaljoehgdhhhaaHistRead
import Derived.Test.YtbaljoehgdhhhaaDo
import Derived.Deep.CutBlock
namespace Go.Proofs.Ytbaljoehgdhhhaa
open Go.RowKit Go.Shelf Go.Maps

structure AtHas (w : World) (b5 b7 L : Nat) (ha : Option Addr) (q : List MP) (a b c : Int) (W : World) : Prop where
  x5 : Box W b5 #[.int .i64 a, .int .u32 b, .int .u32 c] 45
  x7 : Box W b7 #[.slice ha L L] 65
  h : HW W (.slice ha L L) q
  g : Below w.heap.size w W

set_option maxRecDepth 100000 in
set_option maxHeartbeats 3200000 in
theorem has_any (pv vv : Value) (M : Mem) (N p : Nat) (a b c : Int) (w : World) (h : MW w pv vv M) (G : M.Good N) (hN : N ≤ 1000) (hp : p < M.hs.length) :
    Calls Try.prog 23 #[.agg #[pv, vv], .int .i64 p, .agg #[.int .i64 a, .int .u32 b, .int .u32 c]] w fun e w' => e = .returned (.bool ((M.hist p).any (isW a b c))) ∧ Below w.heap.size w w' := by
  have hgh := G.hist hp
  have hnp := G.np
  obtain ⟨u1, u2, e1, e2⟩ := h.slices
  obtain ⟨np, hnpe⟩ : ∃ n, M.hs.length = n := ⟨_, rfl⟩
  obtain ⟨nv, hnve⟩ : ∃ n, M.vs.length = n := ⟨_, rfl⟩
  rw [hnpe] at e1
  rw [hnve] at e2
  subst e1 e2
  obtain ⟨L, hL⟩ : ∃ L, (M.hist p).length = L := ⟨_, rfl⟩
  have HL := Lib.hid hL
  have hL1 : L ≤ 1000 := by omega
  have HP := Lib.hid hp
  have HNP := Lib.hid hnp
  have hbb := b2 w (.cells #[.slice u1 np np, .slice u2 nv nv] 31) (.cells #[.int .i64 a, .int .u32 b, .int .u32 c] 45)
  have HH := Lib.hid (h.below hbb)
  have X3 := Lib.hid (Box.alloc (Box.new w #[.slice u1 np np, .slice u2 nv nv] 31 rfl) (.cells #[.int .i64 a, .int .u32 b, .int .u32 c] 45))
  have X5 := Lib.hid (Box.new (w.alloc (.cells #[.slice u1 np np, .slice u2 nv nv] 31)) #[.int .i64 a, .int .u32 b, .int .u32 c] 45 (n := w.heap.size + 1) (by simp))
  have BB := Lib.hid hbb
  have qE := eqlW
  clear h hbb hL hgh hp hnp G hnpe hnve
  go_enter Try.func23, Try.ntmps23
  go_upto_region 1 with fail
  generalize (w.alloc (.cells #[.slice u1 np np, .slice u2 nv nv] 31)).alloc (.cells #[.int .i64 a, .int .u32 b, .int .u32 c] 45) = W0 at *
  obtain ⟨b5, hb5⟩ : ∃ br, w.heap.size + 1 = br := ⟨_, rfl⟩
  obtain ⟨b3, hb3⟩ : ∃ bp, w.heap.size = bp := ⟨_, rfl⟩
  have hbq := hb3
  rw [hb5] at X5 ⊢
  rw [hb3] at X3 hb5 ⊢
  obtain ⟨⟨m0, m1⟩, -⟩ := X3.out.cells2
  go_wp2_with fail
  clear m0 m1
  refine (history_ok _ _ M p _ HH.out HP.out HNP.out).mono ?_
  rintro e a0 ⟨ha, q, rfl, hq, hhw, hb⟩
  replace X3 := Lib.hid (X3.out.below (hb))
  replace X5 := Lib.hid (X5.out.below (hb))
  replace HH := Lib.hid (HH.out.below (hb))
  replace BB := Lib.hid (BB.out.trans ((hb).mono BB.out.size))
  clear hb
  have QQ := Lib.hid (hhw)
  rw [HL.out] at QQ ⊢
  have HQ := Lib.hid hq
  clear hq hhw
  go_upto_region 2 with fail
  have hlt_b7 := BB.out.size
  have hlt_b7_X3 := X3.out.lt
  have hlt_b7_X5 := X5.out.lt
  replace X3 := Lib.hid (X3.out.below (below_new a0 (.cells #[.slice ha L L] 65)))
  replace X5 := Lib.hid (X5.out.below (below_new a0 (.cells #[.slice ha L L] 65)))
  replace HH := Lib.hid (HH.out.below (below_new a0 (.cells #[.slice ha L L] 65)))
  replace QQ := Lib.hid (QQ.out.below (below_new a0 (.cells #[.slice ha L L] 65)))
  replace BB := Lib.hid (BB.out.trans ((below_new a0 (.cells #[.slice ha L L] 65)).mono BB.out.size))
  have B7 := Lib.hid (Box.new a0 #[.slice ha L L] 65 rfl)
  have hsz_b7 : (World.alloc a0 (.cells #[.slice ha L L] 65)).heap.size = (World.heap a0).size + 1 := by simp
  generalize World.alloc a0 (.cells #[.slice ha L L] 65) = a1 at *
  generalize World.heap a0 = hp_b7 at *
  generalize hp_b7.size = b7 at *
  have HQL := Lib.hid (show q.length = L by have := congrArg List.length HQ.out; rw [List.length_map] at this; rw [this]; exact HL.out)
  go_wp2_with fail
  go_loopw [9] (fun iv wr => ∃ k : Nat, k ≤ L ∧ iv = .int .i64 k ∧ AtHas w b5 b7 L ha q a b c wr ∧ (∀ j, j < k → isW a b c (M.msg p j) = false)) (fun iv _ => L - (intOf iv).toNat)
  case atStart => exact ⟨0, by omega, by simp, ⟨X5.out, B7.out, QQ.out, by first | exact BB.out | (rw [hbq]; exact BB.out)⟩, fun j hj => absurd hj (by omega)⟩
  case round =>
    obtain ⟨k, hk, rfl, ⟨X5', B7', QQ', BB'⟩, hno⟩ := hrel
    clear X5 B7 QQ BB X3 HH
    have HNO := Lib.hid hno
    clear hno
    have X5 := Lib.hid X5'
    clear X5'
    have B7 := Lib.hid B7'
    clear B7'
    have QQ := Lib.hid QQ'
    clear QQ'
    have BB := Lib.hid BB'
    clear BB'
    obtain ⟨m0, -⟩ := B7.out.cells1
    go_wp2_with fail
    clear m0
    refine (len_c _ _ _ _).mono ?_
    rintro e a2 ⟨rfl, hb⟩
    replace X5 := Lib.hid (X5.out.below (hb))
    replace B7 := Lib.hid (B7.out.below (hb))
    replace QQ := Lib.hid (QQ.out.below (hb))
    replace BB := Lib.hid (BB.out.trans ((hb).mono BB.out.size))
    clear hb
    by_cases hlt : k < L
    · skip
      obtain ⟨xp, hx⟩ := q_msg HQ.out (i := k) (by rw [HQL.out]; exact hlt)
      have HX := Lib.hid hx
      clear hx
      obtain ⟨m0, -⟩ := B7.out.cells1
      go_wp2_with fail
      clear m0
      refine (hat_in _ _ k _ _ QQ.out HX.out (by rw [HQL.out]; omega)).mono ?_
      rintro e a3 ⟨rfl, hb⟩
      replace X5 := Lib.hid (X5.out.below (hb))
      replace B7 := Lib.hid (B7.out.below (hb))
      replace QQ := Lib.hid (QQ.out.below (hb))
      replace BB := Lib.hid (BB.out.trans ((hb).mono BB.out.size))
      clear hb
      obtain ⟨xm, hxm⟩ : ∃ x, (M.hist p).getD k zeroMsg = x := ⟨_, rfl⟩
      have HXM := Lib.hid (show M.msg p k = xm from hxm)
      rw [hxm]
      obtain ⟨xa, xb, xc, xd, xv⟩ := xm
      unfold msgV
      simp only
      clear hxm HX
      go_upto_region 6 with fail
      have hlt_b10 := BB.out.size
      have hlt_b10_X5 := X5.out.lt
      have hlt_b10_B7 := B7.out.lt
      replace X5 := Lib.hid (X5.out.below (below_new a3 (.cells #[.int .i64 xa, .int .u32 xb, .int .u32 xc, .int .i64 xd, .map xp] 70)))
      replace B7 := Lib.hid (B7.out.below (below_new a3 (.cells #[.int .i64 xa, .int .u32 xb, .int .u32 xc, .int .i64 xd, .map xp] 70)))
      replace QQ := Lib.hid (QQ.out.below (below_new a3 (.cells #[.int .i64 xa, .int .u32 xb, .int .u32 xc, .int .i64 xd, .map xp] 70)))
      replace BB := Lib.hid (BB.out.trans ((below_new a3 (.cells #[.int .i64 xa, .int .u32 xb, .int .u32 xc, .int .i64 xd, .map xp] 70)).mono BB.out.size))
      have B10 := Lib.hid (Box.new a3 #[.int .i64 xa, .int .u32 xb, .int .u32 xc, .int .i64 xd, .map xp] 70 rfl)
      have hsz_b10 : (World.alloc a3 (.cells #[.int .i64 xa, .int .u32 xb, .int .u32 xc, .int .i64 xd, .map xp] 70)).heap.size = (World.heap a3).size + 1 := by simp
      generalize World.alloc a3 (.cells #[.int .i64 xa, .int .u32 xb, .int .u32 xc, .int .i64 xd, .map xp] 70) = a4 at *
      generalize World.heap a3 = hp_b10 at *
      generalize hp_b10.size = b10 at *
      by_cases hw : isW a b c ⟨xa, xb, xc, xd, xv⟩ = true
      · skip
        have hm : (xa == a && (xb == b && xc == c)) = true := hw
        have HF := Lib.hid (show (M.hist p).any (isW a b c) = true by
          rw [List.any_eq_true]
          refine ⟨M.msg p k, ?_, by rw [HXM.out]; exact hw⟩
          unfold Mem.msg
          rw [List.getD_eq_getElem?_getD, List.getElem?_eq_getElem (by rw [HL.out]; exact hlt)]; exact List.getElem_mem _)
        clear hw
        obtain ⟨⟨j0, j1, j2⟩, -⟩ := X5.out.cells3
        obtain ⟨⟨i0, i1, i2, i3, i4⟩, -⟩ := B10.out.cells5
        have F2 := BB.out
        go_wp2
        go_ret
        rw [HF.out]
        exact ⟨by simp, F2⟩
      · skip
        have hm : (xa == a && (xb == b && xc == c)) = false := by simpa [isW] using hw
        have HF := Lib.hid (show ∀ j, j < k + 1 → isW a b c (M.msg p j) = false by
          intro j hj
          rcases Nat.lt_or_ge j k with h' | h'
          · exact HNO.out j h'
          · obtain rfl : j = k := by omega
            rw [HXM.out]; simpa using hw)
        clear hw
        obtain ⟨⟨j0, j1, j2⟩, -⟩ := X5.out.cells3
        obtain ⟨⟨i0, i1, i2, i3, i4⟩, -⟩ := B10.out.cells5
        go_wp2
        go_roundw
        case rel => exact ⟨k + 1, by omega, by go_num, ⟨X5.out, B7.out, QQ.out, BB.out⟩, HF.out⟩
        case measure => simp [intOf]; omega
    · skip
      have HF := Lib.hid (show (M.hist p).any (isW a b c) = false by
        rw [List.any_eq_false]
        intro g hg
        obtain ⟨j, hj, rfl⟩ := List.getElem_of_mem hg
        have := HNO.out j (by rw [HL.out] at hj; omega)
        unfold Mem.msg at this
        rw [List.getD_eq_getElem?_getD, List.getElem?_eq_getElem hj] at this
        simpa using this)
      have F2 := BB.out
      go_wp2
      go_ret
      rw [HF.out]
      exact ⟨by simp, F2⟩
end Go.Proofs.Ytbaljoehgdhhhaa
