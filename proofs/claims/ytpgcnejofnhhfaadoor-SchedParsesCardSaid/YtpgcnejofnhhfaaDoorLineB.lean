/- One line whose numbers are canonical: the values and the checks of parseLine. -/
import Derived.Test.YtpgcnejofnhhfaaDoorLine
namespace Go.Proofs.YtpgcnejofnhhfaaDoor
open Go.ChangeShapes Go.WideShapes Go.ChangeAt Go.RowKit
theorem ne02 : ((0 : Int) != 2) = true := rfl
theorem ne01 : ((0 : Int) != 1) = true := rfl
theorem ne12 : ((1 : Int) != 2) = true := rfl
theorem ne11 : ((1 : Int) != 1) = false := rfl
theorem ne22 : ((2 : Int) != 2) = false := rfl
theorem ne21 : ((2 : Int) != 1) = true := rfl

set_option maxRecDepth 100000 in
set_option maxHeartbeats 1600000 in
theorem line_t0 (s : ByteArray) (w : World) (hs : s.size ≤ 65536) (hg : Gl w) (h : ByteArray) (ns : List ByteArray) (hw : wordsB s = h :: ns) (a b : ByteArray) (hns : ns = [a, b]) (hk : kindL h = some 0) (hc : allCan ns = true) (hv : valO a = none) :
    Calls Tryd.prog 27 #[.string s] w (LineP s w) := by
  have HK := Lib.hid hk
  have HC := Lib.hid hc
  clear hc
  have HV := Lib.hid hv
  clear hv
  subst hns
  have HN : Hid (∀ x ∈ [a, b], x.size ≤ 100000) := Lib.hid (fun x hx => wordsB_small s 100000 (by omega) x (by rw [hw]; exact List.mem_cons_of_mem _ hx))
  have hz0 : (wordsB s).length = 3 := by rw [hw]; rfl
  have HG := Lib.hid hg
  have HW := Lib.hid hw
  have HS := Lib.hid (split_any s _ (by omega) (hg.below (below1 w (.cells #[.int .i64 0, .int .i64 0, .int .i64 0] 35))))
  have HKV : Hid (kindV h = .tuple #[.int .i64 0, .bool true]) := Lib.hid (by simp [kindV, hk])
  clear hw hg hk
  go_enter Tryd.func27, Tryd.ntmps27
  go_wp2_with fail
  refine HS.out.mono ?_
  intro e w2 hS
  have he := hS.1
  have I := Lib.hid (LIn.new hS HG.out)
  rw [HW.out] at I
  rw [hz0, show (w.alloc (.cells #[.int .i64 0, .int .i64 0, .int .i64 0] 35)).heap.size = w.heap.size + 1 by simp] at he
  subst he
  clear hS HS HG hz0
  obtain ⟨b1, hb1⟩ : ∃ b, w.heap.size = b := ⟨_, rfl⟩
  have HB := Lib.hid hb1
  rw [hb1] at I ⊢
  clear hb1
  have hc0 := I.out.c 0 (by simp)
  rw [List.getD_cons_zero] at hc0
  go_wp2_with fail
  clear hc0
  refine (kindOf_any h _ I.out.g).mono ?_
  rintro e w' ⟨rfl, rfl⟩
  rw [HKV.out]

  have hmb : ((2 : Int) != manyL 0) = false := by decide
  go_wp2_with fail
  refine (many_any 0 _ (by omega)).mono ?_
  rintro e w' ⟨rfl, rfl⟩
  go_wp2_with fail
  refine (allCan_any _ [a, b] _ (by simp) HN.out (I.out.strs _)).mono ?_
  rintro e w' ⟨rfl, rfl⟩
  rw [HC.out]
  go_wp2_with fail
  have B : Hid (Box (w2.alloc (.cells #[.int .i64 0, .int .i64 0, .int .i64 0] 35)) w2.heap.size #[.int .i64 0, .int .i64 0, .int .i64 0] 35) := Lib.hid (Box.new w2 _ 35 rfl)
  have hlt := I.out.lt
  replace I := Lib.hid (I.out.below (below1 w2 (.cells #[.int .i64 0, .int .i64 0, .int .i64 0] 35)))
  generalize w2.alloc (.cells #[.int .i64 0, .int .i64 0, .int .i64 0] 35) = W3 at *
  generalize w2.heap.size = b3 at *
  refine (hasThread_any 0 _).mono ?_
  rintro e w' ⟨rfl, rfl⟩
  rw [ne02]
  have hc1 : W3.cell? ⟨b1 + 1, 1, none⟩ = some (.string a) := I.out.c 1 (by simp)
  go_wp2_with fail
  clear hc1
  refine (value_no a _ (HN.out _ (by simp)) I.out.g HV.out).mono ?_
  rintro e W4 ⟨⟨x, rfl⟩, hb⟩
  replace I := Lib.hid (I.out.below hb)
  replace B := Lib.hid (B.out.below hb)
  clear hb
  obtain ⟨⟨m0, m1, m2⟩, n0, n1, n2⟩ := B.out.cells3
  obtain ⟨⟨r0, r1, r2⟩, r3, r4, r5⟩ := I.out.r.cells3
  have hne : b3 ≠ b1 := by have := I.out.ne; omega
  go_wp2_with fail
  clear r0 r1 r2 r3 r4 r5 hne
  clear m0 m1 m2 n0 n1 n2
  replace I := Lib.hid (I.out.set hlt B.out.lt 1 (.int .i64 x))
  replace B : Hid (Box (W4.setCell ⟨b3, 1, none⟩ (.int .i64 x)) b3 #[.int .i64 0, .int .i64 x, .int .i64 0] 35) := Lib.hid (B.out.set 1 (.int .i64 x))
  generalize W4.setCell ⟨b3, 1, none⟩ (.int .i64 x) = W3 at *
  obtain ⟨⟨r0, r1, r2⟩, r3, r4, r5⟩ := I.out.r.cells3
  all_goals (
    refine bodyPost_ret (v := .tuple #[.agg #[.int .i64 0, .int .i64 0, .int .i64 0], .int .i64 3]) (by simp [results, Tryd.f27, go_sem, r0, r1, r2]) rfl ?_
    refine LineP.mk' (p := zPk) (x := 3) (by unfold lineL; rw [HW.out]; simp only; rw [HK.out]; simp only; rw [if_pos ⟨rfl, HC.out⟩]; simp [pickL, HV.out]) rfl ?_
    rw [HB.out]
    exact below_set (below_set (below_set I.out.b (Nat.le_refl _) _ _) (Nat.le_refl _) _ _) (Nat.le_refl _) _ _)

set_option maxRecDepth 100000 in
set_option maxHeartbeats 1600000 in
theorem line_c0 (s : ByteArray) (w : World) (hs : s.size ≤ 65536) (hg : Gl w) (h : ByteArray) (ns : List ByteArray) (hw : wordsB s = h :: ns) (a b : ByteArray) (hns : ns = [a, b]) (hk : kindL h = some 0) (hc : allCan ns = true) (ta : Int) (hv : valO a = some ta) (hv2 : valO b = none) :
    Calls Tryd.prog 27 #[.string s] w (LineP s w) := by
  have HK := Lib.hid hk
  have HC := Lib.hid hc
  clear hc
  have HV := Lib.hid hv
  clear hv
  have HV2 := Lib.hid hv2
  clear hv2
  subst hns
  have HN : Hid (∀ x ∈ [a, b], x.size ≤ 100000) := Lib.hid (fun x hx => wordsB_small s 100000 (by omega) x (by rw [hw]; exact List.mem_cons_of_mem _ hx))
  have hz0 : (wordsB s).length = 3 := by rw [hw]; rfl
  have HG := Lib.hid hg
  have HW := Lib.hid hw
  have HS := Lib.hid (split_any s _ (by omega) (hg.below (below1 w (.cells #[.int .i64 0, .int .i64 0, .int .i64 0] 35))))
  have HKV : Hid (kindV h = .tuple #[.int .i64 0, .bool true]) := Lib.hid (by simp [kindV, hk])
  clear hw hg hk
  go_enter Tryd.func27, Tryd.ntmps27
  go_wp2_with fail
  refine HS.out.mono ?_
  intro e w2 hS
  have he := hS.1
  have I := Lib.hid (LIn.new hS HG.out)
  rw [HW.out] at I
  rw [hz0, show (w.alloc (.cells #[.int .i64 0, .int .i64 0, .int .i64 0] 35)).heap.size = w.heap.size + 1 by simp] at he
  subst he
  clear hS HS HG hz0
  obtain ⟨b1, hb1⟩ : ∃ b, w.heap.size = b := ⟨_, rfl⟩
  have HB := Lib.hid hb1
  rw [hb1] at I ⊢
  clear hb1
  have hc0 := I.out.c 0 (by simp)
  rw [List.getD_cons_zero] at hc0
  go_wp2_with fail
  clear hc0
  refine (kindOf_any h _ I.out.g).mono ?_
  rintro e w' ⟨rfl, rfl⟩
  rw [HKV.out]

  have hmb : ((2 : Int) != manyL 0) = false := by decide
  go_wp2_with fail
  refine (many_any 0 _ (by omega)).mono ?_
  rintro e w' ⟨rfl, rfl⟩
  go_wp2_with fail
  refine (allCan_any _ [a, b] _ (by simp) HN.out (I.out.strs _)).mono ?_
  rintro e w' ⟨rfl, rfl⟩
  rw [HC.out]
  go_wp2_with fail
  have B : Hid (Box (w2.alloc (.cells #[.int .i64 0, .int .i64 0, .int .i64 0] 35)) w2.heap.size #[.int .i64 0, .int .i64 0, .int .i64 0] 35) := Lib.hid (Box.new w2 _ 35 rfl)
  have hlt := I.out.lt
  replace I := Lib.hid (I.out.below (below1 w2 (.cells #[.int .i64 0, .int .i64 0, .int .i64 0] 35)))
  generalize w2.alloc (.cells #[.int .i64 0, .int .i64 0, .int .i64 0] 35) = W3 at *
  generalize w2.heap.size = b3 at *
  refine (hasThread_any 0 _).mono ?_
  rintro e w' ⟨rfl, rfl⟩
  rw [ne02]
  have hc1 : W3.cell? ⟨b1 + 1, 1, none⟩ = some (.string a) := I.out.c 1 (by simp)
  go_wp2_with fail
  clear hc1
  refine (value_yes a ta _ (HN.out _ (by simp)) I.out.g HV.out).mono ?_
  rintro e W4 ⟨rfl, hb⟩
  replace I := Lib.hid (I.out.below hb)
  replace B := Lib.hid (B.out.below hb)
  clear hb
  obtain ⟨⟨m0, m1, m2⟩, n0, n1, n2⟩ := B.out.cells3
  go_wp2_with fail
  clear m0 m1 m2 n0 n1 n2
  replace I := Lib.hid (I.out.set hlt B.out.lt 1 (.int .i64 ta))
  replace B : Hid (Box (W4.setCell ⟨b3, 1, none⟩ (.int .i64 ta)) b3 #[.int .i64 0, .int .i64 ta, .int .i64 0] 35) := Lib.hid (B.out.set 1 (.int .i64 ta))
  generalize W4.setCell ⟨b3, 1, none⟩ (.int .i64 ta) = W3 at *
  refine (hasChoice_any 0 _).mono ?_
  rintro e w' ⟨rfl, rfl⟩
  rw [ne01]
  have hc1 : W3.cell? ⟨b1 + 1, 2, none⟩ = some (.string b) := I.out.c 2 (by simp)
  go_wp2_with fail
  clear hc1
  refine (value_no b _ (HN.out _ (by simp)) I.out.g HV2.out).mono ?_
  rintro e W4 ⟨⟨x, rfl⟩, hb⟩
  replace I := Lib.hid (I.out.below hb)
  replace B := Lib.hid (B.out.below hb)
  clear hb
  obtain ⟨⟨m0, m1, m2⟩, n0, n1, n2⟩ := B.out.cells3
  obtain ⟨⟨r0, r1, r2⟩, r3, r4, r5⟩ := I.out.r.cells3
  go_wp2_with fail
  clear r0 r1 r2 r3 r4 r5
  clear m0 m1 m2 n0 n1 n2
  replace I := Lib.hid (I.out.set hlt B.out.lt 2 (.int .i64 x))
  replace B : Hid (Box (W4.setCell ⟨b3, 2, none⟩ (.int .i64 x)) b3 #[.int .i64 0, .int .i64 ta, .int .i64 x] 35) := Lib.hid (B.out.set 2 (.int .i64 x))
  generalize W4.setCell ⟨b3, 2, none⟩ (.int .i64 x) = W3 at *
  obtain ⟨⟨r0, r1, r2⟩, r3, r4, r5⟩ := I.out.r.cells3
  all_goals (
    refine bodyPost_ret (v := .tuple #[.agg #[.int .i64 0, .int .i64 0, .int .i64 0], .int .i64 3]) (by simp [results, Tryd.f27, go_sem, r0, r1, r2]) rfl ?_
    refine LineP.mk' (p := zPk) (x := 3) (by unfold lineL; rw [HW.out]; simp only; rw [HK.out]; simp only; rw [if_pos ⟨rfl, HC.out⟩]; simp [pickL, HV.out, HV2.out]) rfl ?_
    rw [HB.out]
    exact below_set (below_set (below_set I.out.b (Nat.le_refl _) _ _) (Nat.le_refl _) _ _) (Nat.le_refl _) _ _)

set_option maxRecDepth 100000 in
set_option maxHeartbeats 1600000 in
theorem line_b0 (s : ByteArray) (w : World) (hs : s.size ≤ 65536) (hg : Gl w) (h : ByteArray) (ns : List ByteArray) (hw : wordsB s = h :: ns) (a b : ByteArray) (hns : ns = [a, b]) (hk : kindL h = some 0) (hc : allCan ns = true) (ta tb : Int) (hv : valO a = some ta) (hv2 : valO b = some tb) (hq : ¬ checkL (0, ta, tb) = 0) :
    Calls Tryd.prog 27 #[.string s] w (LineP s w) := by
  have HK := Lib.hid hk
  have HC := Lib.hid hc
  clear hc
  have HV := Lib.hid hv
  clear hv
  have HV2 := Lib.hid hv2
  clear hv2
  subst hns
  have HN : Hid (∀ x ∈ [a, b], x.size ≤ 100000) := Lib.hid (fun x hx => wordsB_small s 100000 (by omega) x (by rw [hw]; exact List.mem_cons_of_mem _ hx))
  have hz0 : (wordsB s).length = 3 := by rw [hw]; rfl
  have HG := Lib.hid hg
  have HW := Lib.hid hw
  have HS := Lib.hid (split_any s _ (by omega) (hg.below (below1 w (.cells #[.int .i64 0, .int .i64 0, .int .i64 0] 35))))
  have HKV : Hid (kindV h = .tuple #[.int .i64 0, .bool true]) := Lib.hid (by simp [kindV, hk])
  clear hw hg hk
  go_enter Tryd.func27, Tryd.ntmps27
  go_wp2_with fail
  refine HS.out.mono ?_
  intro e w2 hS
  have he := hS.1
  have I := Lib.hid (LIn.new hS HG.out)
  rw [HW.out] at I
  rw [hz0, show (w.alloc (.cells #[.int .i64 0, .int .i64 0, .int .i64 0] 35)).heap.size = w.heap.size + 1 by simp] at he
  subst he
  clear hS HS HG hz0
  obtain ⟨b1, hb1⟩ : ∃ b, w.heap.size = b := ⟨_, rfl⟩
  have HB := Lib.hid hb1
  rw [hb1] at I ⊢
  clear hb1
  have hc0 := I.out.c 0 (by simp)
  rw [List.getD_cons_zero] at hc0
  go_wp2_with fail
  clear hc0
  refine (kindOf_any h _ I.out.g).mono ?_
  rintro e w' ⟨rfl, rfl⟩
  rw [HKV.out]

  have hmb : ((2 : Int) != manyL 0) = false := by decide
  go_wp2_with fail
  refine (many_any 0 _ (by omega)).mono ?_
  rintro e w' ⟨rfl, rfl⟩
  go_wp2_with fail
  refine (allCan_any _ [a, b] _ (by simp) HN.out (I.out.strs _)).mono ?_
  rintro e w' ⟨rfl, rfl⟩
  rw [HC.out]
  have HQ := Lib.hid hq
  clear hq
  go_wp2_with fail
  have B : Hid (Box (w2.alloc (.cells #[.int .i64 0, .int .i64 0, .int .i64 0] 35)) w2.heap.size #[.int .i64 0, .int .i64 0, .int .i64 0] 35) := Lib.hid (Box.new w2 _ 35 rfl)
  have hlt := I.out.lt
  replace I := Lib.hid (I.out.below (below1 w2 (.cells #[.int .i64 0, .int .i64 0, .int .i64 0] 35)))
  generalize w2.alloc (.cells #[.int .i64 0, .int .i64 0, .int .i64 0] 35) = W3 at *
  generalize w2.heap.size = b3 at *
  refine (hasThread_any 0 _).mono ?_
  rintro e w' ⟨rfl, rfl⟩
  rw [ne02]
  have hc1 : W3.cell? ⟨b1 + 1, 1, none⟩ = some (.string a) := I.out.c 1 (by simp)
  go_wp2_with fail
  clear hc1
  refine (value_yes a ta _ (HN.out _ (by simp)) I.out.g HV.out).mono ?_
  rintro e W4 ⟨rfl, hb⟩
  replace I := Lib.hid (I.out.below hb)
  replace B := Lib.hid (B.out.below hb)
  clear hb
  obtain ⟨⟨m0, m1, m2⟩, n0, n1, n2⟩ := B.out.cells3
  go_wp2_with fail
  clear m0 m1 m2 n0 n1 n2
  replace I := Lib.hid (I.out.set hlt B.out.lt 1 (.int .i64 ta))
  replace B : Hid (Box (W4.setCell ⟨b3, 1, none⟩ (.int .i64 ta)) b3 #[.int .i64 0, .int .i64 ta, .int .i64 0] 35) := Lib.hid (B.out.set 1 (.int .i64 ta))
  generalize W4.setCell ⟨b3, 1, none⟩ (.int .i64 ta) = W3 at *
  refine (hasChoice_any 0 _).mono ?_
  rintro e w' ⟨rfl, rfl⟩
  rw [ne01]
  have hc1 : W3.cell? ⟨b1 + 1, 2, none⟩ = some (.string b) := I.out.c 2 (by simp)
  go_wp2_with fail
  clear hc1
  refine (value_yes b tb _ (HN.out _ (by simp)) I.out.g HV2.out).mono ?_
  rintro e W4 ⟨rfl, hb⟩
  replace I := Lib.hid (I.out.below hb)
  replace B := Lib.hid (B.out.below hb)
  clear hb
  obtain ⟨⟨m0, m1, m2⟩, n0, n1, n2⟩ := B.out.cells3
  go_wp2_with fail
  clear m0 m1 m2 n0 n1 n2
  replace I := Lib.hid (I.out.set hlt B.out.lt 2 (.int .i64 tb))
  replace B : Hid (Box (W4.setCell ⟨b3, 2, none⟩ (.int .i64 tb)) b3 #[.int .i64 0, .int .i64 ta, .int .i64 tb] 35) := Lib.hid (B.out.set 2 (.int .i64 tb))
  generalize W4.setCell ⟨b3, 2, none⟩ (.int .i64 tb) = W3 at *
  refine (check_any 0 (ta) (tb) _).mono ?_
  rintro e W5 ⟨rfl, hb⟩
  replace I := Lib.hid (I.out.below hb)
  replace B := Lib.hid (B.out.below hb)
  clear hb
  have hqb : (checkL (0, ta, tb) != 0) = true := by rw [bne_iff_ne]; exact HQ.out
  obtain ⟨⟨r0, r1, r2⟩, r3, r4, r5⟩ := I.out.r.cells3
  go_wp2_with fail
  all_goals (
    refine bodyPost_ret (v := .tuple #[.agg #[.int .i64 0, .int .i64 0, .int .i64 0], .int .i64 3]) (by simp [results, Tryd.f27, go_sem, r0, r1, r2]) rfl ?_
    refine LineP.mk' (p := zPk) (x := 3) (by unfold lineL; rw [HW.out]; simp only; rw [HK.out]; simp only; rw [if_pos ⟨rfl, HC.out⟩]; simp [pickL, HV.out, HV2.out, HQ.out]) rfl ?_
    rw [HB.out]
    exact below_set (below_set (below_set I.out.b (Nat.le_refl _) _ _) (Nat.le_refl _) _ _) (Nat.le_refl _) _ _)

set_option maxRecDepth 100000 in
set_option maxHeartbeats 1600000 in
theorem line_e0 (s : ByteArray) (w : World) (hs : s.size ≤ 65536) (hg : Gl w) (h : ByteArray) (ns : List ByteArray) (hw : wordsB s = h :: ns) (a b : ByteArray) (hns : ns = [a, b]) (hk : kindL h = some 0) (hc : allCan ns = true) (ta tb : Int) (hv : valO a = some ta) (hv2 : valO b = some tb) (hq : checkL (0, ta, tb) = 0) :
    Calls Tryd.prog 27 #[.string s] w (LineP s w) := by
  have HK := Lib.hid hk
  have HC := Lib.hid hc
  clear hc
  have HV := Lib.hid hv
  clear hv
  have HV2 := Lib.hid hv2
  clear hv2
  subst hns
  have HN : Hid (∀ x ∈ [a, b], x.size ≤ 100000) := Lib.hid (fun x hx => wordsB_small s 100000 (by omega) x (by rw [hw]; exact List.mem_cons_of_mem _ hx))
  have hz0 : (wordsB s).length = 3 := by rw [hw]; rfl
  have HG := Lib.hid hg
  have HW := Lib.hid hw
  have HS := Lib.hid (split_any s _ (by omega) (hg.below (below1 w (.cells #[.int .i64 0, .int .i64 0, .int .i64 0] 35))))
  have HKV : Hid (kindV h = .tuple #[.int .i64 0, .bool true]) := Lib.hid (by simp [kindV, hk])
  clear hw hg hk
  go_enter Tryd.func27, Tryd.ntmps27
  go_wp2_with fail
  refine HS.out.mono ?_
  intro e w2 hS
  have he := hS.1
  have I := Lib.hid (LIn.new hS HG.out)
  rw [HW.out] at I
  rw [hz0, show (w.alloc (.cells #[.int .i64 0, .int .i64 0, .int .i64 0] 35)).heap.size = w.heap.size + 1 by simp] at he
  subst he
  clear hS HS HG hz0
  obtain ⟨b1, hb1⟩ : ∃ b, w.heap.size = b := ⟨_, rfl⟩
  have HB := Lib.hid hb1
  rw [hb1] at I ⊢
  clear hb1
  have hc0 := I.out.c 0 (by simp)
  rw [List.getD_cons_zero] at hc0
  go_wp2_with fail
  clear hc0
  refine (kindOf_any h _ I.out.g).mono ?_
  rintro e w' ⟨rfl, rfl⟩
  rw [HKV.out]

  have hmb : ((2 : Int) != manyL 0) = false := by decide
  go_wp2_with fail
  refine (many_any 0 _ (by omega)).mono ?_
  rintro e w' ⟨rfl, rfl⟩
  go_wp2_with fail
  refine (allCan_any _ [a, b] _ (by simp) HN.out (I.out.strs _)).mono ?_
  rintro e w' ⟨rfl, rfl⟩
  rw [HC.out]
  have HQ := Lib.hid hq
  clear hq
  go_wp2_with fail
  have B : Hid (Box (w2.alloc (.cells #[.int .i64 0, .int .i64 0, .int .i64 0] 35)) w2.heap.size #[.int .i64 0, .int .i64 0, .int .i64 0] 35) := Lib.hid (Box.new w2 _ 35 rfl)
  have hlt := I.out.lt
  replace I := Lib.hid (I.out.below (below1 w2 (.cells #[.int .i64 0, .int .i64 0, .int .i64 0] 35)))
  generalize w2.alloc (.cells #[.int .i64 0, .int .i64 0, .int .i64 0] 35) = W3 at *
  generalize w2.heap.size = b3 at *
  refine (hasThread_any 0 _).mono ?_
  rintro e w' ⟨rfl, rfl⟩
  rw [ne02]
  have hc1 : W3.cell? ⟨b1 + 1, 1, none⟩ = some (.string a) := I.out.c 1 (by simp)
  go_wp2_with fail
  clear hc1
  refine (value_yes a ta _ (HN.out _ (by simp)) I.out.g HV.out).mono ?_
  rintro e W4 ⟨rfl, hb⟩
  replace I := Lib.hid (I.out.below hb)
  replace B := Lib.hid (B.out.below hb)
  clear hb
  obtain ⟨⟨m0, m1, m2⟩, n0, n1, n2⟩ := B.out.cells3
  go_wp2_with fail
  clear m0 m1 m2 n0 n1 n2
  replace I := Lib.hid (I.out.set hlt B.out.lt 1 (.int .i64 ta))
  replace B : Hid (Box (W4.setCell ⟨b3, 1, none⟩ (.int .i64 ta)) b3 #[.int .i64 0, .int .i64 ta, .int .i64 0] 35) := Lib.hid (B.out.set 1 (.int .i64 ta))
  generalize W4.setCell ⟨b3, 1, none⟩ (.int .i64 ta) = W3 at *
  refine (hasChoice_any 0 _).mono ?_
  rintro e w' ⟨rfl, rfl⟩
  rw [ne01]
  have hc1 : W3.cell? ⟨b1 + 1, 2, none⟩ = some (.string b) := I.out.c 2 (by simp)
  go_wp2_with fail
  clear hc1
  refine (value_yes b tb _ (HN.out _ (by simp)) I.out.g HV2.out).mono ?_
  rintro e W4 ⟨rfl, hb⟩
  replace I := Lib.hid (I.out.below hb)
  replace B := Lib.hid (B.out.below hb)
  clear hb
  obtain ⟨⟨m0, m1, m2⟩, n0, n1, n2⟩ := B.out.cells3
  go_wp2_with fail
  clear m0 m1 m2 n0 n1 n2
  replace I := Lib.hid (I.out.set hlt B.out.lt 2 (.int .i64 tb))
  replace B : Hid (Box (W4.setCell ⟨b3, 2, none⟩ (.int .i64 tb)) b3 #[.int .i64 0, .int .i64 ta, .int .i64 tb] 35) := Lib.hid (B.out.set 2 (.int .i64 tb))
  generalize W4.setCell ⟨b3, 2, none⟩ (.int .i64 tb) = W3 at *
  refine (check_any 0 (ta) (tb) _).mono ?_
  rintro e W5 ⟨rfl, hb⟩
  replace I := Lib.hid (I.out.below hb)
  replace B := Lib.hid (B.out.below hb)
  clear hb
  rw [HQ.out]
  obtain ⟨⟨r0, r1, r2⟩, r3, r4, r5⟩ := I.out.r.cells3
  obtain ⟨⟨m0, m1, m2⟩, n0, n1, n2⟩ := B.out.cells3
  go_wp2_with fail
  refine bodyPost_ret (v := .tuple #[.agg #[.int .i64 0, .int .i64 ta, .int .i64 tb], .int .i64 0]) (by simp [results, Tryd.f27, go_sem, r0, r1, r2]) rfl ?_
  refine LineP.mk' (p := (0, ta, tb)) (x := 0) (by unfold lineL; rw [HW.out]; simp only; rw [HK.out]; simp only; rw [if_pos ⟨rfl, HC.out⟩]; simp [pickL, HV.out, HV2.out, HQ.out]) rfl ?_
  rw [HB.out]
  exact below_set (below_set (below_set I.out.b (Nat.le_refl _) _ _) (Nat.le_refl _) _ _) (Nat.le_refl _) _ _

set_option maxRecDepth 100000 in
set_option maxHeartbeats 1600000 in
theorem line_c1 (s : ByteArray) (w : World) (hs : s.size ≤ 65536) (hg : Gl w) (h : ByteArray) (ns : List ByteArray) (hw : wordsB s = h :: ns) (a : ByteArray) (hns : ns = [a]) (hk : kindL h = some 1) (hc : allCan ns = true) (hv : valO a = none) :
    Calls Tryd.prog 27 #[.string s] w (LineP s w) := by
  have HK := Lib.hid hk
  have HC := Lib.hid hc
  clear hc
  have HV := Lib.hid hv
  clear hv
  subst hns
  have HN : Hid (∀ x ∈ [a], x.size ≤ 100000) := Lib.hid (fun x hx => wordsB_small s 100000 (by omega) x (by rw [hw]; exact List.mem_cons_of_mem _ hx))
  have hz0 : (wordsB s).length = 2 := by rw [hw]; rfl
  have HG := Lib.hid hg
  have HW := Lib.hid hw
  have HS := Lib.hid (split_any s _ (by omega) (hg.below (below1 w (.cells #[.int .i64 0, .int .i64 0, .int .i64 0] 35))))
  have HKV : Hid (kindV h = .tuple #[.int .i64 1, .bool true]) := Lib.hid (by simp [kindV, hk])
  clear hw hg hk
  go_enter Tryd.func27, Tryd.ntmps27
  go_wp2_with fail
  refine HS.out.mono ?_
  intro e w2 hS
  have he := hS.1
  have I := Lib.hid (LIn.new hS HG.out)
  rw [HW.out] at I
  rw [hz0, show (w.alloc (.cells #[.int .i64 0, .int .i64 0, .int .i64 0] 35)).heap.size = w.heap.size + 1 by simp] at he
  subst he
  clear hS HS HG hz0
  obtain ⟨b1, hb1⟩ : ∃ b, w.heap.size = b := ⟨_, rfl⟩
  have HB := Lib.hid hb1
  rw [hb1] at I ⊢
  clear hb1
  have hc0 := I.out.c 0 (by simp)
  rw [List.getD_cons_zero] at hc0
  go_wp2_with fail
  clear hc0
  refine (kindOf_any h _ I.out.g).mono ?_
  rintro e w' ⟨rfl, rfl⟩
  rw [HKV.out]

  have hmb : ((1 : Int) != manyL 1) = false := by decide
  go_wp2_with fail
  refine (many_any 1 _ (by omega)).mono ?_
  rintro e w' ⟨rfl, rfl⟩
  go_wp2_with fail
  refine (allCan_any _ [a] _ (by simp) HN.out (I.out.strs _)).mono ?_
  rintro e w' ⟨rfl, rfl⟩
  rw [HC.out]
  go_wp2_with fail
  have B : Hid (Box (w2.alloc (.cells #[.int .i64 1, .int .i64 0, .int .i64 0] 35)) w2.heap.size #[.int .i64 1, .int .i64 0, .int .i64 0] 35) := Lib.hid (Box.new w2 _ 35 rfl)
  have hlt := I.out.lt
  replace I := Lib.hid (I.out.below (below1 w2 (.cells #[.int .i64 1, .int .i64 0, .int .i64 0] 35)))
  generalize w2.alloc (.cells #[.int .i64 1, .int .i64 0, .int .i64 0] 35) = W3 at *
  generalize w2.heap.size = b3 at *
  refine (hasThread_any 1 _).mono ?_
  rintro e w' ⟨rfl, rfl⟩
  rw [ne12]
  have hc1 : W3.cell? ⟨b1 + 1, 1, none⟩ = some (.string a) := I.out.c 1 (by simp)
  go_wp2_with fail
  clear hc1
  refine (value_no a _ (HN.out _ (by simp)) I.out.g HV.out).mono ?_
  rintro e W4 ⟨⟨x, rfl⟩, hb⟩
  replace I := Lib.hid (I.out.below hb)
  replace B := Lib.hid (B.out.below hb)
  clear hb
  obtain ⟨⟨m0, m1, m2⟩, n0, n1, n2⟩ := B.out.cells3
  obtain ⟨⟨r0, r1, r2⟩, r3, r4, r5⟩ := I.out.r.cells3
  have hne : b3 ≠ b1 := by have := I.out.ne; omega
  go_wp2_with fail
  clear r0 r1 r2 r3 r4 r5 hne
  clear m0 m1 m2 n0 n1 n2
  replace I := Lib.hid (I.out.set hlt B.out.lt 1 (.int .i64 x))
  replace B : Hid (Box (W4.setCell ⟨b3, 1, none⟩ (.int .i64 x)) b3 #[.int .i64 1, .int .i64 x, .int .i64 0] 35) := Lib.hid (B.out.set 1 (.int .i64 x))
  generalize W4.setCell ⟨b3, 1, none⟩ (.int .i64 x) = W3 at *
  obtain ⟨⟨r0, r1, r2⟩, r3, r4, r5⟩ := I.out.r.cells3
  all_goals (
    refine bodyPost_ret (v := .tuple #[.agg #[.int .i64 0, .int .i64 0, .int .i64 0], .int .i64 3]) (by simp [results, Tryd.f27, go_sem, r0, r1, r2]) rfl ?_
    refine LineP.mk' (p := zPk) (x := 3) (by unfold lineL; rw [HW.out]; simp only; rw [HK.out]; simp only; rw [if_pos ⟨rfl, HC.out⟩]; simp [pickL, HV.out]) rfl ?_
    rw [HB.out]
    exact below_set (below_set (below_set I.out.b (Nat.le_refl _) _ _) (Nat.le_refl _) _ _) (Nat.le_refl _) _ _)

set_option maxRecDepth 100000 in
set_option maxHeartbeats 1600000 in
theorem line_b1 (s : ByteArray) (w : World) (hs : s.size ≤ 65536) (hg : Gl w) (h : ByteArray) (ns : List ByteArray) (hw : wordsB s = h :: ns) (a : ByteArray) (hns : ns = [a]) (hk : kindL h = some 1) (hc : allCan ns = true) (ta : Int) (hv : valO a = some ta) (hq : ¬ checkL (1, ta, 0) = 0) :
    Calls Tryd.prog 27 #[.string s] w (LineP s w) := by
  have HK := Lib.hid hk
  have HC := Lib.hid hc
  clear hc
  have HV := Lib.hid hv
  clear hv
  subst hns
  have HN : Hid (∀ x ∈ [a], x.size ≤ 100000) := Lib.hid (fun x hx => wordsB_small s 100000 (by omega) x (by rw [hw]; exact List.mem_cons_of_mem _ hx))
  have hz0 : (wordsB s).length = 2 := by rw [hw]; rfl
  have HG := Lib.hid hg
  have HW := Lib.hid hw
  have HS := Lib.hid (split_any s _ (by omega) (hg.below (below1 w (.cells #[.int .i64 0, .int .i64 0, .int .i64 0] 35))))
  have HKV : Hid (kindV h = .tuple #[.int .i64 1, .bool true]) := Lib.hid (by simp [kindV, hk])
  clear hw hg hk
  go_enter Tryd.func27, Tryd.ntmps27
  go_wp2_with fail
  refine HS.out.mono ?_
  intro e w2 hS
  have he := hS.1
  have I := Lib.hid (LIn.new hS HG.out)
  rw [HW.out] at I
  rw [hz0, show (w.alloc (.cells #[.int .i64 0, .int .i64 0, .int .i64 0] 35)).heap.size = w.heap.size + 1 by simp] at he
  subst he
  clear hS HS HG hz0
  obtain ⟨b1, hb1⟩ : ∃ b, w.heap.size = b := ⟨_, rfl⟩
  have HB := Lib.hid hb1
  rw [hb1] at I ⊢
  clear hb1
  have hc0 := I.out.c 0 (by simp)
  rw [List.getD_cons_zero] at hc0
  go_wp2_with fail
  clear hc0
  refine (kindOf_any h _ I.out.g).mono ?_
  rintro e w' ⟨rfl, rfl⟩
  rw [HKV.out]

  have hmb : ((1 : Int) != manyL 1) = false := by decide
  go_wp2_with fail
  refine (many_any 1 _ (by omega)).mono ?_
  rintro e w' ⟨rfl, rfl⟩
  go_wp2_with fail
  refine (allCan_any _ [a] _ (by simp) HN.out (I.out.strs _)).mono ?_
  rintro e w' ⟨rfl, rfl⟩
  rw [HC.out]
  have HQ := Lib.hid hq
  clear hq
  go_wp2_with fail
  have B : Hid (Box (w2.alloc (.cells #[.int .i64 1, .int .i64 0, .int .i64 0] 35)) w2.heap.size #[.int .i64 1, .int .i64 0, .int .i64 0] 35) := Lib.hid (Box.new w2 _ 35 rfl)
  have hlt := I.out.lt
  replace I := Lib.hid (I.out.below (below1 w2 (.cells #[.int .i64 1, .int .i64 0, .int .i64 0] 35)))
  generalize w2.alloc (.cells #[.int .i64 1, .int .i64 0, .int .i64 0] 35) = W3 at *
  generalize w2.heap.size = b3 at *
  refine (hasThread_any 1 _).mono ?_
  rintro e w' ⟨rfl, rfl⟩
  rw [ne12]
  have hc1 : W3.cell? ⟨b1 + 1, 1, none⟩ = some (.string a) := I.out.c 1 (by simp)
  go_wp2_with fail
  clear hc1
  refine (value_yes a ta _ (HN.out _ (by simp)) I.out.g HV.out).mono ?_
  rintro e W4 ⟨rfl, hb⟩
  replace I := Lib.hid (I.out.below hb)
  replace B := Lib.hid (B.out.below hb)
  clear hb
  obtain ⟨⟨m0, m1, m2⟩, n0, n1, n2⟩ := B.out.cells3
  go_wp2_with fail
  clear m0 m1 m2 n0 n1 n2
  replace I := Lib.hid (I.out.set hlt B.out.lt 1 (.int .i64 ta))
  replace B : Hid (Box (W4.setCell ⟨b3, 1, none⟩ (.int .i64 ta)) b3 #[.int .i64 1, .int .i64 ta, .int .i64 0] 35) := Lib.hid (B.out.set 1 (.int .i64 ta))
  generalize W4.setCell ⟨b3, 1, none⟩ (.int .i64 ta) = W3 at *
  refine (hasChoice_any 1 _).mono ?_
  rintro e w' ⟨rfl, rfl⟩
  rw [ne11]
  obtain ⟨⟨m0, m1, m2⟩, n0, n1, n2⟩ := B.out.cells3
  go_wp2_with fail
  clear m0 m1 m2 n0 n1 n2
  refine (check_any 1 (ta) (0) _).mono ?_
  rintro e W5 ⟨rfl, hb⟩
  replace I := Lib.hid (I.out.below hb)
  replace B := Lib.hid (B.out.below hb)
  clear hb
  have hqb : (checkL (1, ta, 0) != 0) = true := by rw [bne_iff_ne]; exact HQ.out
  obtain ⟨⟨r0, r1, r2⟩, r3, r4, r5⟩ := I.out.r.cells3
  go_wp2_with fail
  all_goals (
    refine bodyPost_ret (v := .tuple #[.agg #[.int .i64 0, .int .i64 0, .int .i64 0], .int .i64 3]) (by simp [results, Tryd.f27, go_sem, r0, r1, r2]) rfl ?_
    refine LineP.mk' (p := zPk) (x := 3) (by unfold lineL; rw [HW.out]; simp only; rw [HK.out]; simp only; rw [if_pos ⟨rfl, HC.out⟩]; simp [pickL, HV.out, HQ.out]) rfl ?_
    rw [HB.out]
    exact below_set (below_set (below_set I.out.b (Nat.le_refl _) _ _) (Nat.le_refl _) _ _) (Nat.le_refl _) _ _)

set_option maxRecDepth 100000 in
set_option maxHeartbeats 1600000 in
theorem line_e1 (s : ByteArray) (w : World) (hs : s.size ≤ 65536) (hg : Gl w) (h : ByteArray) (ns : List ByteArray) (hw : wordsB s = h :: ns) (a : ByteArray) (hns : ns = [a]) (hk : kindL h = some 1) (hc : allCan ns = true) (ta : Int) (hv : valO a = some ta) (hq : checkL (1, ta, 0) = 0) :
    Calls Tryd.prog 27 #[.string s] w (LineP s w) := by
  have HK := Lib.hid hk
  have HC := Lib.hid hc
  clear hc
  have HV := Lib.hid hv
  clear hv
  subst hns
  have HN : Hid (∀ x ∈ [a], x.size ≤ 100000) := Lib.hid (fun x hx => wordsB_small s 100000 (by omega) x (by rw [hw]; exact List.mem_cons_of_mem _ hx))
  have hz0 : (wordsB s).length = 2 := by rw [hw]; rfl
  have HG := Lib.hid hg
  have HW := Lib.hid hw
  have HS := Lib.hid (split_any s _ (by omega) (hg.below (below1 w (.cells #[.int .i64 0, .int .i64 0, .int .i64 0] 35))))
  have HKV : Hid (kindV h = .tuple #[.int .i64 1, .bool true]) := Lib.hid (by simp [kindV, hk])
  clear hw hg hk
  go_enter Tryd.func27, Tryd.ntmps27
  go_wp2_with fail
  refine HS.out.mono ?_
  intro e w2 hS
  have he := hS.1
  have I := Lib.hid (LIn.new hS HG.out)
  rw [HW.out] at I
  rw [hz0, show (w.alloc (.cells #[.int .i64 0, .int .i64 0, .int .i64 0] 35)).heap.size = w.heap.size + 1 by simp] at he
  subst he
  clear hS HS HG hz0
  obtain ⟨b1, hb1⟩ : ∃ b, w.heap.size = b := ⟨_, rfl⟩
  have HB := Lib.hid hb1
  rw [hb1] at I ⊢
  clear hb1
  have hc0 := I.out.c 0 (by simp)
  rw [List.getD_cons_zero] at hc0
  go_wp2_with fail
  clear hc0
  refine (kindOf_any h _ I.out.g).mono ?_
  rintro e w' ⟨rfl, rfl⟩
  rw [HKV.out]

  have hmb : ((1 : Int) != manyL 1) = false := by decide
  go_wp2_with fail
  refine (many_any 1 _ (by omega)).mono ?_
  rintro e w' ⟨rfl, rfl⟩
  go_wp2_with fail
  refine (allCan_any _ [a] _ (by simp) HN.out (I.out.strs _)).mono ?_
  rintro e w' ⟨rfl, rfl⟩
  rw [HC.out]
  have HQ := Lib.hid hq
  clear hq
  go_wp2_with fail
  have B : Hid (Box (w2.alloc (.cells #[.int .i64 1, .int .i64 0, .int .i64 0] 35)) w2.heap.size #[.int .i64 1, .int .i64 0, .int .i64 0] 35) := Lib.hid (Box.new w2 _ 35 rfl)
  have hlt := I.out.lt
  replace I := Lib.hid (I.out.below (below1 w2 (.cells #[.int .i64 1, .int .i64 0, .int .i64 0] 35)))
  generalize w2.alloc (.cells #[.int .i64 1, .int .i64 0, .int .i64 0] 35) = W3 at *
  generalize w2.heap.size = b3 at *
  refine (hasThread_any 1 _).mono ?_
  rintro e w' ⟨rfl, rfl⟩
  rw [ne12]
  have hc1 : W3.cell? ⟨b1 + 1, 1, none⟩ = some (.string a) := I.out.c 1 (by simp)
  go_wp2_with fail
  clear hc1
  refine (value_yes a ta _ (HN.out _ (by simp)) I.out.g HV.out).mono ?_
  rintro e W4 ⟨rfl, hb⟩
  replace I := Lib.hid (I.out.below hb)
  replace B := Lib.hid (B.out.below hb)
  clear hb
  obtain ⟨⟨m0, m1, m2⟩, n0, n1, n2⟩ := B.out.cells3
  go_wp2_with fail
  clear m0 m1 m2 n0 n1 n2
  replace I := Lib.hid (I.out.set hlt B.out.lt 1 (.int .i64 ta))
  replace B : Hid (Box (W4.setCell ⟨b3, 1, none⟩ (.int .i64 ta)) b3 #[.int .i64 1, .int .i64 ta, .int .i64 0] 35) := Lib.hid (B.out.set 1 (.int .i64 ta))
  generalize W4.setCell ⟨b3, 1, none⟩ (.int .i64 ta) = W3 at *
  refine (hasChoice_any 1 _).mono ?_
  rintro e w' ⟨rfl, rfl⟩
  rw [ne11]
  obtain ⟨⟨m0, m1, m2⟩, n0, n1, n2⟩ := B.out.cells3
  go_wp2_with fail
  clear m0 m1 m2 n0 n1 n2
  refine (check_any 1 (ta) (0) _).mono ?_
  rintro e W5 ⟨rfl, hb⟩
  replace I := Lib.hid (I.out.below hb)
  replace B := Lib.hid (B.out.below hb)
  clear hb
  rw [HQ.out]
  obtain ⟨⟨r0, r1, r2⟩, r3, r4, r5⟩ := I.out.r.cells3
  obtain ⟨⟨m0, m1, m2⟩, n0, n1, n2⟩ := B.out.cells3
  go_wp2_with fail
  refine bodyPost_ret (v := .tuple #[.agg #[.int .i64 1, .int .i64 ta, .int .i64 0], .int .i64 0]) (by simp [results, Tryd.f27, go_sem, r0, r1, r2]) rfl ?_
  refine LineP.mk' (p := (1, ta, 0)) (x := 0) (by unfold lineL; rw [HW.out]; simp only; rw [HK.out]; simp only; rw [if_pos ⟨rfl, HC.out⟩]; simp [pickL, HV.out, HQ.out]) rfl ?_
  rw [HB.out]
  exact below_set (below_set (below_set I.out.b (Nat.le_refl _) _ _) (Nat.le_refl _) _ _) (Nat.le_refl _) _ _

set_option maxRecDepth 100000 in
set_option maxHeartbeats 1600000 in
theorem line_c2 (s : ByteArray) (w : World) (hs : s.size ≤ 65536) (hg : Gl w) (h : ByteArray) (ns : List ByteArray) (hw : wordsB s = h :: ns) (a : ByteArray) (hns : ns = [a]) (hk : kindL h = some 2) (hc : allCan ns = true) (hv : valO a = none) :
    Calls Tryd.prog 27 #[.string s] w (LineP s w) := by
  have HK := Lib.hid hk
  have HC := Lib.hid hc
  clear hc
  have HV := Lib.hid hv
  clear hv
  subst hns
  have HN : Hid (∀ x ∈ [a], x.size ≤ 100000) := Lib.hid (fun x hx => wordsB_small s 100000 (by omega) x (by rw [hw]; exact List.mem_cons_of_mem _ hx))
  have hz0 : (wordsB s).length = 2 := by rw [hw]; rfl
  have HG := Lib.hid hg
  have HW := Lib.hid hw
  have HS := Lib.hid (split_any s _ (by omega) (hg.below (below1 w (.cells #[.int .i64 0, .int .i64 0, .int .i64 0] 35))))
  have HKV : Hid (kindV h = .tuple #[.int .i64 2, .bool true]) := Lib.hid (by simp [kindV, hk])
  clear hw hg hk
  go_enter Tryd.func27, Tryd.ntmps27
  go_wp2_with fail
  refine HS.out.mono ?_
  intro e w2 hS
  have he := hS.1
  have I := Lib.hid (LIn.new hS HG.out)
  rw [HW.out] at I
  rw [hz0, show (w.alloc (.cells #[.int .i64 0, .int .i64 0, .int .i64 0] 35)).heap.size = w.heap.size + 1 by simp] at he
  subst he
  clear hS HS HG hz0
  obtain ⟨b1, hb1⟩ : ∃ b, w.heap.size = b := ⟨_, rfl⟩
  have HB := Lib.hid hb1
  rw [hb1] at I ⊢
  clear hb1
  have hc0 := I.out.c 0 (by simp)
  rw [List.getD_cons_zero] at hc0
  go_wp2_with fail
  clear hc0
  refine (kindOf_any h _ I.out.g).mono ?_
  rintro e w' ⟨rfl, rfl⟩
  rw [HKV.out]

  have hmb : ((1 : Int) != manyL 2) = false := by decide
  go_wp2_with fail
  refine (many_any 2 _ (by omega)).mono ?_
  rintro e w' ⟨rfl, rfl⟩
  go_wp2_with fail
  refine (allCan_any _ [a] _ (by simp) HN.out (I.out.strs _)).mono ?_
  rintro e w' ⟨rfl, rfl⟩
  rw [HC.out]
  go_wp2_with fail
  have B : Hid (Box (w2.alloc (.cells #[.int .i64 2, .int .i64 0, .int .i64 0] 35)) w2.heap.size #[.int .i64 2, .int .i64 0, .int .i64 0] 35) := Lib.hid (Box.new w2 _ 35 rfl)
  have hlt := I.out.lt
  replace I := Lib.hid (I.out.below (below1 w2 (.cells #[.int .i64 2, .int .i64 0, .int .i64 0] 35)))
  generalize w2.alloc (.cells #[.int .i64 2, .int .i64 0, .int .i64 0] 35) = W3 at *
  generalize w2.heap.size = b3 at *
  refine (hasThread_any 2 _).mono ?_
  rintro e w' ⟨rfl, rfl⟩
  rw [ne22]
  go_wp2_with fail
  refine (hasChoice_any 2 _).mono ?_
  rintro e w' ⟨rfl, rfl⟩
  rw [ne21]
  have hc1 : W3.cell? ⟨b1 + 1, 1, none⟩ = some (.string a) := I.out.c 1 (by simp)
  go_wp2_with fail
  clear hc1
  refine (value_no a _ (HN.out _ (by simp)) I.out.g HV.out).mono ?_
  rintro e W4 ⟨⟨x, rfl⟩, hb⟩
  replace I := Lib.hid (I.out.below hb)
  replace B := Lib.hid (B.out.below hb)
  clear hb
  obtain ⟨⟨m0, m1, m2⟩, n0, n1, n2⟩ := B.out.cells3
  obtain ⟨⟨r0, r1, r2⟩, r3, r4, r5⟩ := I.out.r.cells3
  go_wp2_with fail
  clear r0 r1 r2 r3 r4 r5
  clear m0 m1 m2 n0 n1 n2
  replace I := Lib.hid (I.out.set hlt B.out.lt 2 (.int .i64 x))
  replace B : Hid (Box (W4.setCell ⟨b3, 2, none⟩ (.int .i64 x)) b3 #[.int .i64 2, .int .i64 0, .int .i64 x] 35) := Lib.hid (B.out.set 2 (.int .i64 x))
  generalize W4.setCell ⟨b3, 2, none⟩ (.int .i64 x) = W3 at *
  obtain ⟨⟨r0, r1, r2⟩, r3, r4, r5⟩ := I.out.r.cells3
  all_goals (
    refine bodyPost_ret (v := .tuple #[.agg #[.int .i64 0, .int .i64 0, .int .i64 0], .int .i64 3]) (by simp [results, Tryd.f27, go_sem, r0, r1, r2]) rfl ?_
    refine LineP.mk' (p := zPk) (x := 3) (by unfold lineL; rw [HW.out]; simp only; rw [HK.out]; simp only; rw [if_pos ⟨rfl, HC.out⟩]; simp [pickL, HV.out]) rfl ?_
    rw [HB.out]
    exact below_set (below_set (below_set I.out.b (Nat.le_refl _) _ _) (Nat.le_refl _) _ _) (Nat.le_refl _) _ _)

set_option maxRecDepth 100000 in
set_option maxHeartbeats 1600000 in
theorem line_b2 (s : ByteArray) (w : World) (hs : s.size ≤ 65536) (hg : Gl w) (h : ByteArray) (ns : List ByteArray) (hw : wordsB s = h :: ns) (a : ByteArray) (hns : ns = [a]) (hk : kindL h = some 2) (hc : allCan ns = true) (ta : Int) (hv : valO a = some ta) (hq : ¬ checkL (2, 0, ta) = 0) :
    Calls Tryd.prog 27 #[.string s] w (LineP s w) := by
  have HK := Lib.hid hk
  have HC := Lib.hid hc
  clear hc
  have HV := Lib.hid hv
  clear hv
  subst hns
  have HN : Hid (∀ x ∈ [a], x.size ≤ 100000) := Lib.hid (fun x hx => wordsB_small s 100000 (by omega) x (by rw [hw]; exact List.mem_cons_of_mem _ hx))
  have hz0 : (wordsB s).length = 2 := by rw [hw]; rfl
  have HG := Lib.hid hg
  have HW := Lib.hid hw
  have HS := Lib.hid (split_any s _ (by omega) (hg.below (below1 w (.cells #[.int .i64 0, .int .i64 0, .int .i64 0] 35))))
  have HKV : Hid (kindV h = .tuple #[.int .i64 2, .bool true]) := Lib.hid (by simp [kindV, hk])
  clear hw hg hk
  go_enter Tryd.func27, Tryd.ntmps27
  go_wp2_with fail
  refine HS.out.mono ?_
  intro e w2 hS
  have he := hS.1
  have I := Lib.hid (LIn.new hS HG.out)
  rw [HW.out] at I
  rw [hz0, show (w.alloc (.cells #[.int .i64 0, .int .i64 0, .int .i64 0] 35)).heap.size = w.heap.size + 1 by simp] at he
  subst he
  clear hS HS HG hz0
  obtain ⟨b1, hb1⟩ : ∃ b, w.heap.size = b := ⟨_, rfl⟩
  have HB := Lib.hid hb1
  rw [hb1] at I ⊢
  clear hb1
  have hc0 := I.out.c 0 (by simp)
  rw [List.getD_cons_zero] at hc0
  go_wp2_with fail
  clear hc0
  refine (kindOf_any h _ I.out.g).mono ?_
  rintro e w' ⟨rfl, rfl⟩
  rw [HKV.out]

  have hmb : ((1 : Int) != manyL 2) = false := by decide
  go_wp2_with fail
  refine (many_any 2 _ (by omega)).mono ?_
  rintro e w' ⟨rfl, rfl⟩
  go_wp2_with fail
  refine (allCan_any _ [a] _ (by simp) HN.out (I.out.strs _)).mono ?_
  rintro e w' ⟨rfl, rfl⟩
  rw [HC.out]
  have HQ := Lib.hid hq
  clear hq
  go_wp2_with fail
  have B : Hid (Box (w2.alloc (.cells #[.int .i64 2, .int .i64 0, .int .i64 0] 35)) w2.heap.size #[.int .i64 2, .int .i64 0, .int .i64 0] 35) := Lib.hid (Box.new w2 _ 35 rfl)
  have hlt := I.out.lt
  replace I := Lib.hid (I.out.below (below1 w2 (.cells #[.int .i64 2, .int .i64 0, .int .i64 0] 35)))
  generalize w2.alloc (.cells #[.int .i64 2, .int .i64 0, .int .i64 0] 35) = W3 at *
  generalize w2.heap.size = b3 at *
  refine (hasThread_any 2 _).mono ?_
  rintro e w' ⟨rfl, rfl⟩
  rw [ne22]
  go_wp2_with fail
  refine (hasChoice_any 2 _).mono ?_
  rintro e w' ⟨rfl, rfl⟩
  rw [ne21]
  have hc1 : W3.cell? ⟨b1 + 1, 1, none⟩ = some (.string a) := I.out.c 1 (by simp)
  go_wp2_with fail
  clear hc1
  refine (value_yes a ta _ (HN.out _ (by simp)) I.out.g HV.out).mono ?_
  rintro e W4 ⟨rfl, hb⟩
  replace I := Lib.hid (I.out.below hb)
  replace B := Lib.hid (B.out.below hb)
  clear hb
  obtain ⟨⟨m0, m1, m2⟩, n0, n1, n2⟩ := B.out.cells3
  go_wp2_with fail
  clear m0 m1 m2 n0 n1 n2
  replace I := Lib.hid (I.out.set hlt B.out.lt 2 (.int .i64 ta))
  replace B : Hid (Box (W4.setCell ⟨b3, 2, none⟩ (.int .i64 ta)) b3 #[.int .i64 2, .int .i64 0, .int .i64 ta] 35) := Lib.hid (B.out.set 2 (.int .i64 ta))
  generalize W4.setCell ⟨b3, 2, none⟩ (.int .i64 ta) = W3 at *
  refine (check_any 2 (0) (ta) _).mono ?_
  rintro e W5 ⟨rfl, hb⟩
  replace I := Lib.hid (I.out.below hb)
  replace B := Lib.hid (B.out.below hb)
  clear hb
  have hqb : (checkL (2, 0, ta) != 0) = true := by rw [bne_iff_ne]; exact HQ.out
  obtain ⟨⟨r0, r1, r2⟩, r3, r4, r5⟩ := I.out.r.cells3
  go_wp2_with fail
  all_goals (
    refine bodyPost_ret (v := .tuple #[.agg #[.int .i64 0, .int .i64 0, .int .i64 0], .int .i64 3]) (by simp [results, Tryd.f27, go_sem, r0, r1, r2]) rfl ?_
    refine LineP.mk' (p := zPk) (x := 3) (by unfold lineL; rw [HW.out]; simp only; rw [HK.out]; simp only; rw [if_pos ⟨rfl, HC.out⟩]; simp [pickL, HV.out, HQ.out]) rfl ?_
    rw [HB.out]
    exact below_set (below_set (below_set I.out.b (Nat.le_refl _) _ _) (Nat.le_refl _) _ _) (Nat.le_refl _) _ _)

set_option maxRecDepth 100000 in
set_option maxHeartbeats 1600000 in
theorem line_e2 (s : ByteArray) (w : World) (hs : s.size ≤ 65536) (hg : Gl w) (h : ByteArray) (ns : List ByteArray) (hw : wordsB s = h :: ns) (a : ByteArray) (hns : ns = [a]) (hk : kindL h = some 2) (hc : allCan ns = true) (ta : Int) (hv : valO a = some ta) (hq : checkL (2, 0, ta) = 0) :
    Calls Tryd.prog 27 #[.string s] w (LineP s w) := by
  have HK := Lib.hid hk
  have HC := Lib.hid hc
  clear hc
  have HV := Lib.hid hv
  clear hv
  subst hns
  have HN : Hid (∀ x ∈ [a], x.size ≤ 100000) := Lib.hid (fun x hx => wordsB_small s 100000 (by omega) x (by rw [hw]; exact List.mem_cons_of_mem _ hx))
  have hz0 : (wordsB s).length = 2 := by rw [hw]; rfl
  have HG := Lib.hid hg
  have HW := Lib.hid hw
  have HS := Lib.hid (split_any s _ (by omega) (hg.below (below1 w (.cells #[.int .i64 0, .int .i64 0, .int .i64 0] 35))))
  have HKV : Hid (kindV h = .tuple #[.int .i64 2, .bool true]) := Lib.hid (by simp [kindV, hk])
  clear hw hg hk
  go_enter Tryd.func27, Tryd.ntmps27
  go_wp2_with fail
  refine HS.out.mono ?_
  intro e w2 hS
  have he := hS.1
  have I := Lib.hid (LIn.new hS HG.out)
  rw [HW.out] at I
  rw [hz0, show (w.alloc (.cells #[.int .i64 0, .int .i64 0, .int .i64 0] 35)).heap.size = w.heap.size + 1 by simp] at he
  subst he
  clear hS HS HG hz0
  obtain ⟨b1, hb1⟩ : ∃ b, w.heap.size = b := ⟨_, rfl⟩
  have HB := Lib.hid hb1
  rw [hb1] at I ⊢
  clear hb1
  have hc0 := I.out.c 0 (by simp)
  rw [List.getD_cons_zero] at hc0
  go_wp2_with fail
  clear hc0
  refine (kindOf_any h _ I.out.g).mono ?_
  rintro e w' ⟨rfl, rfl⟩
  rw [HKV.out]

  have hmb : ((1 : Int) != manyL 2) = false := by decide
  go_wp2_with fail
  refine (many_any 2 _ (by omega)).mono ?_
  rintro e w' ⟨rfl, rfl⟩
  go_wp2_with fail
  refine (allCan_any _ [a] _ (by simp) HN.out (I.out.strs _)).mono ?_
  rintro e w' ⟨rfl, rfl⟩
  rw [HC.out]
  have HQ := Lib.hid hq
  clear hq
  go_wp2_with fail
  have B : Hid (Box (w2.alloc (.cells #[.int .i64 2, .int .i64 0, .int .i64 0] 35)) w2.heap.size #[.int .i64 2, .int .i64 0, .int .i64 0] 35) := Lib.hid (Box.new w2 _ 35 rfl)
  have hlt := I.out.lt
  replace I := Lib.hid (I.out.below (below1 w2 (.cells #[.int .i64 2, .int .i64 0, .int .i64 0] 35)))
  generalize w2.alloc (.cells #[.int .i64 2, .int .i64 0, .int .i64 0] 35) = W3 at *
  generalize w2.heap.size = b3 at *
  refine (hasThread_any 2 _).mono ?_
  rintro e w' ⟨rfl, rfl⟩
  rw [ne22]
  go_wp2_with fail
  refine (hasChoice_any 2 _).mono ?_
  rintro e w' ⟨rfl, rfl⟩
  rw [ne21]
  have hc1 : W3.cell? ⟨b1 + 1, 1, none⟩ = some (.string a) := I.out.c 1 (by simp)
  go_wp2_with fail
  clear hc1
  refine (value_yes a ta _ (HN.out _ (by simp)) I.out.g HV.out).mono ?_
  rintro e W4 ⟨rfl, hb⟩
  replace I := Lib.hid (I.out.below hb)
  replace B := Lib.hid (B.out.below hb)
  clear hb
  obtain ⟨⟨m0, m1, m2⟩, n0, n1, n2⟩ := B.out.cells3
  go_wp2_with fail
  clear m0 m1 m2 n0 n1 n2
  replace I := Lib.hid (I.out.set hlt B.out.lt 2 (.int .i64 ta))
  replace B : Hid (Box (W4.setCell ⟨b3, 2, none⟩ (.int .i64 ta)) b3 #[.int .i64 2, .int .i64 0, .int .i64 ta] 35) := Lib.hid (B.out.set 2 (.int .i64 ta))
  generalize W4.setCell ⟨b3, 2, none⟩ (.int .i64 ta) = W3 at *
  refine (check_any 2 (0) (ta) _).mono ?_
  rintro e W5 ⟨rfl, hb⟩
  replace I := Lib.hid (I.out.below hb)
  replace B := Lib.hid (B.out.below hb)
  clear hb
  rw [HQ.out]
  obtain ⟨⟨r0, r1, r2⟩, r3, r4, r5⟩ := I.out.r.cells3
  obtain ⟨⟨m0, m1, m2⟩, n0, n1, n2⟩ := B.out.cells3
  go_wp2_with fail
  refine bodyPost_ret (v := .tuple #[.agg #[.int .i64 2, .int .i64 0, .int .i64 ta], .int .i64 0]) (by simp [results, Tryd.f27, go_sem, r0, r1, r2]) rfl ?_
  refine LineP.mk' (p := (2, 0, ta)) (x := 0) (by unfold lineL; rw [HW.out]; simp only; rw [HK.out]; simp only; rw [if_pos ⟨rfl, HC.out⟩]; simp [pickL, HV.out, HQ.out]) rfl ?_
  rw [HB.out]
  exact below_set (below_set (below_set I.out.b (Nat.le_refl _) _ _) (Nat.le_refl _) _ _) (Nat.le_refl _) _ _

end Go.Proofs.YtpgcnejofnhhfaaDoor
