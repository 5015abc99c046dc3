/- The operations' errors: the memory comes back, with the zero word. -/
import Derived.Test.YtbaljoehgdhhhaaAsk
namespace Go.Proofs.Ytbaljoehgdhhhaa
open Go.RowKit Go.Shelf Go.Maps

set_option maxRecDepth 100000 in
set_option maxHeartbeats 1600000 in
theorem load_err (a1 a2 : Option Addr) (np nv : Nat) (t at_ : Int) (acq : Bool) (z : Int) (w : World) (p0 : -9223372036854775808 ≤ at_) (p1 : at_ < 9223372036854775808) (he : errOf np nv t at_ ≠ 0) :
    Calls Try.prog 26 #[.agg #[.slice a1 np np, .slice a2 nv nv], .int .i64 t, .int .i64 at_, .bool acq, .int .i64 z] w fun e w' => e = .returned (.tuple #[.agg #[.slice a1 np np, .slice a2 nv nv], .agg #[.int .i64 0, .int .u32 0, .int .u32 0], .int .i64 (errOf np nv t at_)]) ∧ Below w.heap.size w w' := by
  have hne : (errOf np nv t at_ != 0) = true := by simpa using he
  obtain ⟨er, her⟩ : ∃ e, errOf np nv t at_ = e := ⟨_, rfl⟩
  have HER := Lib.hid her
  rw [her] at hne he ⊢
  clear her
  have BM := Lib.hid (Box.alloc (Box.alloc (Box.new w #[.slice a1 np np, .slice a2 nv nv] 31 (n := w.heap.size) (by simp)) (.cells #[.slice none 0 0, .slice none 0 0] 31)) (.cells #[.int .i64 0, .int .u32 0, .int .u32 0] 45))
  have R1 := Lib.hid (Box.alloc (Box.new (w.alloc (.cells #[.slice a1 np np, .slice a2 nv nv] 31)) #[.slice none 0 0, .slice none 0 0] 31 (n := w.heap.size + 1) (by simp)) (.cells #[.int .i64 0, .int .u32 0, .int .u32 0] 45))
  have R2 := Lib.hid (Box.new ((w.alloc (.cells #[.slice a1 np np, .slice a2 nv nv] 31)).alloc (.cells #[.slice none 0 0, .slice none 0 0] 31)) #[.int .i64 0, .int .u32 0, .int .u32 0] 45 (n := w.heap.size + 1 + 1) (by simp))
  have BB := Lib.hid ((((Below.refl w.heap.size w).alloc (by simp <;> omega) (.cells #[.slice a1 np np, .slice a2 nv nv] 31)).alloc (by simp <;> omega) (.cells #[.slice none 0 0, .slice none 0 0] 31)).alloc (by simp <;> omega) (.cells #[.int .i64 0, .int .u32 0, .int .u32 0] 45))
  go_enter Try.func26, Try.ntmps26
  go_wp2_with fail
  generalize (((w.alloc (.cells #[.slice a1 np np, .slice a2 nv nv] 31)).alloc (.cells #[.slice none 0 0, .slice none 0 0] 31)).alloc (.cells #[.int .i64 0, .int .u32 0, .int .u32 0] 45)) = W0 at *
  obtain ⟨br2, hbr2⟩ : ∃ b, w.heap.size + 1 + 1 = b := ⟨_, rfl⟩
  obtain ⟨br1, hbr1⟩ : ∃ b, w.heap.size + 1 = b := ⟨_, rfl⟩
  obtain ⟨bm, hbm⟩ : ∃ b, w.heap.size = b := ⟨_, rfl⟩
  have hbq := hbm
  rw [hbr2] at R2 ⊢
  rw [hbr1] at R1 hbr2 ⊢
  rw [hbm] at BM hbr1 ⊢
  refine (check_any a1 a2 np nv t at_ _ p0 p1).mono ?_
  rintro e a0 ⟨rfl, hb⟩
  have BM' := Lib.hid (BM.out.below (hb))
  have R1' := Lib.hid (R1.out.below (hb))
  have R2' := Lib.hid (R2.out.below (hb))
  have BB' := Lib.hid (BB.out.trans ((hb).mono BB.out.size))
  clear BM
  have BM := BM'
  clear BM'
  clear R1
  have R1 := R1'
  clear R1'
  clear R2
  have R2 := R2'
  clear R2'
  clear BB
  have BB := BB'
  clear BB'
  clear hb
  rw [HER.out]
  obtain ⟨⟨m0, m1⟩, -⟩ := BM.out.cells2
  obtain ⟨⟨k0, k1⟩, f0, f1⟩ := R1.out.cells2
  obtain ⟨⟨c0, c1⟩, -⟩ := ((R1.out.set 0 (.slice a1 np np)).set 1 (.slice a2 nv nv)).cells2
  have F := (BB.out.put br1 (by omega) 0 (.slice a1 np np)).put br1 (by omega) 1 (.slice a2 nv nv)
  have on := ((Only.refl br1 a0).set 0 (.slice a1 np np)).set 1 (.slice a2 nv nv)
  have r2 := R2.out.only (by omega) on
  obtain ⟨⟨q0, q1, q2⟩, s0, s1, s2⟩ := r2.cells3
  have r1 := (R1.out.set 0 (.slice a1 np np)).set 1 (.slice a2 nv nv)
  obtain ⟨⟨d0, d1, d2⟩, -⟩ := (((r2.set 0 (.int .i64 0)).set 1 (.int .u32 0)).set 2 (.int .u32 0)).cells3
  have on2 := (((Only.refl br2 (World.setCell (World.setCell a0 ⟨br1, 0, none⟩ (.slice a1 np np)) ⟨br1, 1, none⟩ (.slice a2 nv nv))).set 0 (.int .i64 0)).set 1 (.int .u32 0)).set 2 (.int .u32 0)
  have r3 := r1.only (by omega) on2
  obtain ⟨⟨e0, e1⟩, -⟩ := Box.cells2 r3
  have F3 := ((F.put br2 (by omega) 0 (.int .i64 0)).put br2 (by omega) 1 (.int .u32 0)).put br2 (by omega) 2 (.int .u32 0)
  clear on on2 r1 r2 r3 F c0 c1
  have HF := Lib.hid F3
  clear F3 BM R1 BB R2
  go_wp2
  refine bodyPost_ret (v := .tuple #[.agg #[.slice a1 np np, .slice a2 nv nv], .agg #[.int .i64 0, .int .u32 0, .int .u32 0], .int .i64 er]) (by simp [results, Try.f26, go_sem, e0, e1, d0, d1, d2]) rfl ?_
  exact ⟨rfl, HF.out⟩

set_option maxRecDepth 100000 in
set_option maxHeartbeats 1600000 in
theorem look_err (a1 a2 : Option Addr) (np nv : Nat) (t at_ : Int) (w : World) (p0 : -9223372036854775808 ≤ at_) (p1 : at_ < 9223372036854775808) (he : errOf np nv t at_ ≠ 0) :
    Calls Try.prog 25 #[.agg #[.slice a1 np np, .slice a2 nv nv], .int .i64 t, .int .i64 at_] w fun e w' => e = .returned (.tuple #[.agg #[.slice a1 np np, .slice a2 nv nv], .agg #[.int .i64 0, .int .u32 0, .int .u32 0], .int .i64 (errOf np nv t at_)]) ∧ Below w.heap.size w w' := by
  have hne : (errOf np nv t at_ != 0) = true := by simpa using he
  obtain ⟨er, her⟩ : ∃ e, errOf np nv t at_ = e := ⟨_, rfl⟩
  have HER := Lib.hid her
  rw [her] at hne he ⊢
  clear her
  have BM := Lib.hid (Box.alloc (Box.alloc (Box.new w #[.slice a1 np np, .slice a2 nv nv] 31 (n := w.heap.size) (by simp)) (.cells #[.slice none 0 0, .slice none 0 0] 31)) (.cells #[.int .i64 0, .int .u32 0, .int .u32 0] 45))
  have R1 := Lib.hid (Box.alloc (Box.new (w.alloc (.cells #[.slice a1 np np, .slice a2 nv nv] 31)) #[.slice none 0 0, .slice none 0 0] 31 (n := w.heap.size + 1) (by simp)) (.cells #[.int .i64 0, .int .u32 0, .int .u32 0] 45))
  have R2 := Lib.hid (Box.new ((w.alloc (.cells #[.slice a1 np np, .slice a2 nv nv] 31)).alloc (.cells #[.slice none 0 0, .slice none 0 0] 31)) #[.int .i64 0, .int .u32 0, .int .u32 0] 45 (n := w.heap.size + 1 + 1) (by simp))
  have BB := Lib.hid ((((Below.refl w.heap.size w).alloc (by simp <;> omega) (.cells #[.slice a1 np np, .slice a2 nv nv] 31)).alloc (by simp <;> omega) (.cells #[.slice none 0 0, .slice none 0 0] 31)).alloc (by simp <;> omega) (.cells #[.int .i64 0, .int .u32 0, .int .u32 0] 45))
  go_enter Try.func25, Try.ntmps25
  go_wp2_with fail
  generalize (((w.alloc (.cells #[.slice a1 np np, .slice a2 nv nv] 31)).alloc (.cells #[.slice none 0 0, .slice none 0 0] 31)).alloc (.cells #[.int .i64 0, .int .u32 0, .int .u32 0] 45)) = W0 at *
  obtain ⟨br2, hbr2⟩ : ∃ b, w.heap.size + 1 + 1 = b := ⟨_, rfl⟩
  obtain ⟨br1, hbr1⟩ : ∃ b, w.heap.size + 1 = b := ⟨_, rfl⟩
  obtain ⟨bm, hbm⟩ : ∃ b, w.heap.size = b := ⟨_, rfl⟩
  have hbq := hbm
  rw [hbr2] at R2 ⊢
  rw [hbr1] at R1 hbr2 ⊢
  rw [hbm] at BM hbr1 ⊢
  refine (check_any a1 a2 np nv t at_ _ p0 p1).mono ?_
  rintro e a0 ⟨rfl, hb⟩
  have BM' := Lib.hid (BM.out.below (hb))
  have R1' := Lib.hid (R1.out.below (hb))
  have R2' := Lib.hid (R2.out.below (hb))
  have BB' := Lib.hid (BB.out.trans ((hb).mono BB.out.size))
  clear BM
  have BM := BM'
  clear BM'
  clear R1
  have R1 := R1'
  clear R1'
  clear R2
  have R2 := R2'
  clear R2'
  clear BB
  have BB := BB'
  clear BB'
  clear hb
  rw [HER.out]
  obtain ⟨⟨m0, m1⟩, -⟩ := BM.out.cells2
  obtain ⟨⟨k0, k1⟩, f0, f1⟩ := R1.out.cells2
  obtain ⟨⟨c0, c1⟩, -⟩ := ((R1.out.set 0 (.slice a1 np np)).set 1 (.slice a2 nv nv)).cells2
  have F := (BB.out.put br1 (by omega) 0 (.slice a1 np np)).put br1 (by omega) 1 (.slice a2 nv nv)
  have on := ((Only.refl br1 a0).set 0 (.slice a1 np np)).set 1 (.slice a2 nv nv)
  have r2 := R2.out.only (by omega) on
  obtain ⟨⟨q0, q1, q2⟩, s0, s1, s2⟩ := r2.cells3
  have r1 := (R1.out.set 0 (.slice a1 np np)).set 1 (.slice a2 nv nv)
  obtain ⟨⟨d0, d1, d2⟩, -⟩ := (((r2.set 0 (.int .i64 0)).set 1 (.int .u32 0)).set 2 (.int .u32 0)).cells3
  have on2 := (((Only.refl br2 (World.setCell (World.setCell a0 ⟨br1, 0, none⟩ (.slice a1 np np)) ⟨br1, 1, none⟩ (.slice a2 nv nv))).set 0 (.int .i64 0)).set 1 (.int .u32 0)).set 2 (.int .u32 0)
  have r3 := r1.only (by omega) on2
  obtain ⟨⟨e0, e1⟩, -⟩ := Box.cells2 r3
  have F3 := ((F.put br2 (by omega) 0 (.int .i64 0)).put br2 (by omega) 1 (.int .u32 0)).put br2 (by omega) 2 (.int .u32 0)
  clear on on2 r1 r2 r3 F c0 c1
  have HF := Lib.hid F3
  clear F3 BM R1 BB R2
  go_wp2
  refine bodyPost_ret (v := .tuple #[.agg #[.slice a1 np np, .slice a2 nv nv], .agg #[.int .i64 0, .int .u32 0, .int .u32 0], .int .i64 er]) (by simp [results, Try.f25, go_sem, e0, e1, d0, d1, d2]) rfl ?_
  exact ⟨rfl, HF.out⟩

set_option maxRecDepth 100000 in
set_option maxHeartbeats 1600000 in
theorem store_err (a1 a2 : Option Addr) (np nv : Nat) (t at_ : Int) (ya yb yc : Int) (rel : Bool) (w : World) (p0 : -9223372036854775808 ≤ at_) (p1 : at_ < 9223372036854775808) (he : errOf np nv t at_ ≠ 0) :
    Calls Try.prog 24 #[.agg #[.slice a1 np np, .slice a2 nv nv], .int .i64 t, .int .i64 at_, .agg #[.int .i64 ya, .int .u32 yb, .int .u32 yc], .bool rel] w fun e w' => e = .returned (.tuple #[.agg #[.slice a1 np np, .slice a2 nv nv], .int .i64 (errOf np nv t at_)]) ∧ Below w.heap.size w w' := by
  have hne : (errOf np nv t at_ != 0) = true := by simpa using he
  obtain ⟨er, her⟩ : ∃ e, errOf np nv t at_ = e := ⟨_, rfl⟩
  have HER := Lib.hid her
  rw [her] at hne he ⊢
  clear her
  have BM := Lib.hid (Box.alloc (Box.alloc (Box.new w #[.slice a1 np np, .slice a2 nv nv] 31 (n := w.heap.size) (by simp)) (.cells #[.int .i64 ya, .int .u32 yb, .int .u32 yc] 45)) (.cells #[.slice none 0 0, .slice none 0 0] 31))
  have BY := Lib.hid (Box.alloc (Box.new (w.alloc (.cells #[.slice a1 np np, .slice a2 nv nv] 31)) #[.int .i64 ya, .int .u32 yb, .int .u32 yc] 45 (n := w.heap.size + 1) (by simp)) (.cells #[.slice none 0 0, .slice none 0 0] 31))
  have R1 := Lib.hid (Box.new ((w.alloc (.cells #[.slice a1 np np, .slice a2 nv nv] 31)).alloc (.cells #[.int .i64 ya, .int .u32 yb, .int .u32 yc] 45)) #[.slice none 0 0, .slice none 0 0] 31 (n := w.heap.size + 1 + 1) (by simp))
  have BB := Lib.hid ((((Below.refl w.heap.size w).alloc (by simp <;> omega) (.cells #[.slice a1 np np, .slice a2 nv nv] 31)).alloc (by simp <;> omega) (.cells #[.int .i64 ya, .int .u32 yb, .int .u32 yc] 45)).alloc (by simp <;> omega) (.cells #[.slice none 0 0, .slice none 0 0] 31))
  go_enter Try.func24, Try.ntmps24
  go_wp2_with fail
  generalize (((w.alloc (.cells #[.slice a1 np np, .slice a2 nv nv] 31)).alloc (.cells #[.int .i64 ya, .int .u32 yb, .int .u32 yc] 45)).alloc (.cells #[.slice none 0 0, .slice none 0 0] 31)) = W0 at *
  obtain ⟨br1, hbr1⟩ : ∃ b, w.heap.size + 1 + 1 = b := ⟨_, rfl⟩
  obtain ⟨byy, hbyy⟩ : ∃ b, w.heap.size + 1 = b := ⟨_, rfl⟩
  obtain ⟨bm, hbm⟩ : ∃ b, w.heap.size = b := ⟨_, rfl⟩
  have hbq := hbm
  rw [hbr1] at R1 ⊢
  rw [hbyy] at BY hbr1 ⊢
  rw [hbm] at BM hbyy ⊢
  refine (check_any a1 a2 np nv t at_ _ p0 p1).mono ?_
  rintro e a0 ⟨rfl, hb⟩
  have BM' := Lib.hid (BM.out.below (hb))
  have BY' := Lib.hid (BY.out.below (hb))
  have R1' := Lib.hid (R1.out.below (hb))
  have BB' := Lib.hid (BB.out.trans ((hb).mono BB.out.size))
  clear BM
  have BM := BM'
  clear BM'
  clear BY
  have BY := BY'
  clear BY'
  clear R1
  have R1 := R1'
  clear R1'
  clear BB
  have BB := BB'
  clear BB'
  clear hb
  rw [HER.out]
  obtain ⟨⟨m0, m1⟩, -⟩ := BM.out.cells2
  obtain ⟨⟨k0, k1⟩, f0, f1⟩ := R1.out.cells2
  obtain ⟨⟨c0, c1⟩, -⟩ := ((R1.out.set 0 (.slice a1 np np)).set 1 (.slice a2 nv nv)).cells2
  have F := (BB.out.put br1 (by omega) 0 (.slice a1 np np)).put br1 (by omega) 1 (.slice a2 nv nv)
  have F3 := F
  clear F
  have HF := Lib.hid F3
  clear F3 BM R1 BB
  go_wp2
  refine bodyPost_ret (v := .tuple #[.agg #[.slice a1 np np, .slice a2 nv nv], .int .i64 er]) (by simp [results, Try.f24, go_sem, c0, c1]) rfl ?_
  exact ⟨rfl, HF.out⟩

set_option maxRecDepth 100000 in
set_option maxHeartbeats 1600000 in
theorem swap_err (a1 a2 : Option Addr) (np nv : Nat) (t at_ : Int) (oa ob oc ya yb yc : Int) (w : World) (p0 : -9223372036854775808 ≤ at_) (p1 : at_ < 9223372036854775808) (he : errOf np nv t at_ ≠ 0) :
    Calls Try.prog 28 #[.agg #[.slice a1 np np, .slice a2 nv nv], .int .i64 t, .int .i64 at_, .agg #[.int .i64 oa, .int .u32 ob, .int .u32 oc], .agg #[.int .i64 ya, .int .u32 yb, .int .u32 yc]] w fun e w' => e = .returned (.tuple #[.agg #[.slice a1 np np, .slice a2 nv nv], .agg #[.int .i64 0, .int .u32 0, .int .u32 0], .bool false, .int .i64 (errOf np nv t at_)]) ∧ Below w.heap.size w w' := by
  have hne : (errOf np nv t at_ != 0) = true := by simpa using he
  obtain ⟨er, her⟩ : ∃ e, errOf np nv t at_ = e := ⟨_, rfl⟩
  have HER := Lib.hid her
  rw [her] at hne he ⊢
  clear her
  have BM := Lib.hid (Box.alloc (Box.alloc (Box.alloc (Box.alloc (Box.new w #[.slice a1 np np, .slice a2 nv nv] 31 (n := w.heap.size) (by simp)) (.cells #[.int .i64 oa, .int .u32 ob, .int .u32 oc] 45)) (.cells #[.int .i64 ya, .int .u32 yb, .int .u32 yc] 45)) (.cells #[.slice none 0 0, .slice none 0 0] 31)) (.cells #[.int .i64 0, .int .u32 0, .int .u32 0] 45))
  have BO := Lib.hid (Box.alloc (Box.alloc (Box.alloc (Box.new (w.alloc (.cells #[.slice a1 np np, .slice a2 nv nv] 31)) #[.int .i64 oa, .int .u32 ob, .int .u32 oc] 45 (n := w.heap.size + 1) (by simp)) (.cells #[.int .i64 ya, .int .u32 yb, .int .u32 yc] 45)) (.cells #[.slice none 0 0, .slice none 0 0] 31)) (.cells #[.int .i64 0, .int .u32 0, .int .u32 0] 45))
  have BY := Lib.hid (Box.alloc (Box.alloc (Box.new ((w.alloc (.cells #[.slice a1 np np, .slice a2 nv nv] 31)).alloc (.cells #[.int .i64 oa, .int .u32 ob, .int .u32 oc] 45)) #[.int .i64 ya, .int .u32 yb, .int .u32 yc] 45 (n := w.heap.size + 1 + 1) (by simp)) (.cells #[.slice none 0 0, .slice none 0 0] 31)) (.cells #[.int .i64 0, .int .u32 0, .int .u32 0] 45))
  have R1 := Lib.hid (Box.alloc (Box.new (((w.alloc (.cells #[.slice a1 np np, .slice a2 nv nv] 31)).alloc (.cells #[.int .i64 oa, .int .u32 ob, .int .u32 oc] 45)).alloc (.cells #[.int .i64 ya, .int .u32 yb, .int .u32 yc] 45)) #[.slice none 0 0, .slice none 0 0] 31 (n := w.heap.size + 1 + 1 + 1) (by simp)) (.cells #[.int .i64 0, .int .u32 0, .int .u32 0] 45))
  have R2 := Lib.hid (Box.new ((((w.alloc (.cells #[.slice a1 np np, .slice a2 nv nv] 31)).alloc (.cells #[.int .i64 oa, .int .u32 ob, .int .u32 oc] 45)).alloc (.cells #[.int .i64 ya, .int .u32 yb, .int .u32 yc] 45)).alloc (.cells #[.slice none 0 0, .slice none 0 0] 31)) #[.int .i64 0, .int .u32 0, .int .u32 0] 45 (n := w.heap.size + 1 + 1 + 1 + 1) (by simp))
  have BB := Lib.hid ((((((Below.refl w.heap.size w).alloc (by simp <;> omega) (.cells #[.slice a1 np np, .slice a2 nv nv] 31)).alloc (by simp <;> omega) (.cells #[.int .i64 oa, .int .u32 ob, .int .u32 oc] 45)).alloc (by simp <;> omega) (.cells #[.int .i64 ya, .int .u32 yb, .int .u32 yc] 45)).alloc (by simp <;> omega) (.cells #[.slice none 0 0, .slice none 0 0] 31)).alloc (by simp <;> omega) (.cells #[.int .i64 0, .int .u32 0, .int .u32 0] 45))
  go_enter Try.func28, Try.ntmps28
  go_wp2_with fail
  generalize (((((w.alloc (.cells #[.slice a1 np np, .slice a2 nv nv] 31)).alloc (.cells #[.int .i64 oa, .int .u32 ob, .int .u32 oc] 45)).alloc (.cells #[.int .i64 ya, .int .u32 yb, .int .u32 yc] 45)).alloc (.cells #[.slice none 0 0, .slice none 0 0] 31)).alloc (.cells #[.int .i64 0, .int .u32 0, .int .u32 0] 45)) = W0 at *
  obtain ⟨br2, hbr2⟩ : ∃ b, w.heap.size + 1 + 1 + 1 + 1 = b := ⟨_, rfl⟩
  obtain ⟨br1, hbr1⟩ : ∃ b, w.heap.size + 1 + 1 + 1 = b := ⟨_, rfl⟩
  obtain ⟨byy, hbyy⟩ : ∃ b, w.heap.size + 1 + 1 = b := ⟨_, rfl⟩
  obtain ⟨bo, hbo⟩ : ∃ b, w.heap.size + 1 = b := ⟨_, rfl⟩
  obtain ⟨bm, hbm⟩ : ∃ b, w.heap.size = b := ⟨_, rfl⟩
  have hbq := hbm
  rw [hbr2] at R2 ⊢
  rw [hbr1] at R1 hbr2 ⊢
  rw [hbyy] at BY hbr1 ⊢
  rw [hbo] at BO hbyy ⊢
  rw [hbm] at BM hbo ⊢
  refine (check_any a1 a2 np nv t at_ _ p0 p1).mono ?_
  rintro e a0 ⟨rfl, hb⟩
  have BM' := Lib.hid (BM.out.below (hb))
  have BO' := Lib.hid (BO.out.below (hb))
  have BY' := Lib.hid (BY.out.below (hb))
  have R1' := Lib.hid (R1.out.below (hb))
  have R2' := Lib.hid (R2.out.below (hb))
  have BB' := Lib.hid (BB.out.trans ((hb).mono BB.out.size))
  clear BM
  have BM := BM'
  clear BM'
  clear BO
  have BO := BO'
  clear BO'
  clear BY
  have BY := BY'
  clear BY'
  clear R1
  have R1 := R1'
  clear R1'
  clear R2
  have R2 := R2'
  clear R2'
  clear BB
  have BB := BB'
  clear BB'
  clear hb
  rw [HER.out]
  obtain ⟨⟨m0, m1⟩, -⟩ := BM.out.cells2
  obtain ⟨⟨k0, k1⟩, f0, f1⟩ := R1.out.cells2
  obtain ⟨⟨c0, c1⟩, -⟩ := ((R1.out.set 0 (.slice a1 np np)).set 1 (.slice a2 nv nv)).cells2
  have F := (BB.out.put br1 (by omega) 0 (.slice a1 np np)).put br1 (by omega) 1 (.slice a2 nv nv)
  have on := ((Only.refl br1 a0).set 0 (.slice a1 np np)).set 1 (.slice a2 nv nv)
  have r2 := R2.out.only (by omega) on
  obtain ⟨⟨q0, q1, q2⟩, s0, s1, s2⟩ := r2.cells3
  have r1 := (R1.out.set 0 (.slice a1 np np)).set 1 (.slice a2 nv nv)
  obtain ⟨⟨d0, d1, d2⟩, -⟩ := (((r2.set 0 (.int .i64 0)).set 1 (.int .u32 0)).set 2 (.int .u32 0)).cells3
  have on2 := (((Only.refl br2 (World.setCell (World.setCell a0 ⟨br1, 0, none⟩ (.slice a1 np np)) ⟨br1, 1, none⟩ (.slice a2 nv nv))).set 0 (.int .i64 0)).set 1 (.int .u32 0)).set 2 (.int .u32 0)
  have r3 := r1.only (by omega) on2
  obtain ⟨⟨e0, e1⟩, -⟩ := Box.cells2 r3
  have F3 := ((F.put br2 (by omega) 0 (.int .i64 0)).put br2 (by omega) 1 (.int .u32 0)).put br2 (by omega) 2 (.int .u32 0)
  clear on on2 r1 r2 r3 F c0 c1
  have HF := Lib.hid F3
  clear F3 BM R1 BB R2
  go_wp2
  refine bodyPost_ret (v := .tuple #[.agg #[.slice a1 np np, .slice a2 nv nv], .agg #[.int .i64 0, .int .u32 0, .int .u32 0], .bool false, .int .i64 er]) (by simp [results, Try.f28, go_sem, e0, e1, d0, d1, d2]) rfl ?_
  exact ⟨rfl, HF.out⟩
end Go.Proofs.Ytbaljoehgdhhhaa
