/- MemoryCoheres: the walk. -/
import Derived.Test.YtbaljoehgdhhhaaAwake
import Derived.Test.YtbaljoehgdhhhaaBegunNo
import Derived.Test.YtbaljoehgdhhhaaCohPlain
import Derived.Test.YtbaljoehgdhhhaaSeen
import Derived.Test.YtbaljoehgdhhhaaHistRead
import Derived.Deep.CutBlock
namespace Go.Proofs.Ytbaljoehgdhhhaa
open Go.RowKit Go.Shelf Go.Maps
set_option linter.unusedVariables false

theorem res_words (M : Mem) (d : DoV) : ∃ a b c, (M.res d).2.1 = .agg #[.int .i64 a, .int .u32 b, .int .u32 c] := by
  unfold Mem.res
  repeat' split
  all_goals first | exact ⟨0, 0, 0, rfl⟩ | exact ⟨_, _, _, rfl⟩
/-- Where the loops of the law stand. -/
structure AtC (w : World) (b3 b5 b7 n1 T : Nat) (u1 u2 v1 v2 : Option Addr) (M Mk : Mem) (d : DoV) (W : World) : Prop where
  x3 : Box W b3 #[.int .i64 d.t, .int .i64 d.op, .int .i64 d.at_, .int .i64 d.oa, .int .u32 d.ob, .int .u32 d.oc, .int .i64 d.na, .int .u32 d.nb, .int .u32 d.nc, .int .i64 d.z] 49
  x5 : Box W b5 #[.slice u1 n1 n1, .slice u2 T T] 31
  x7 : Box W b7 #[.slice v1 n1 n1, .slice v2 T T] 31
  mm : MW W (.slice u1 n1 n1) (.slice u2 T T) M
  kk : MW W (.slice v1 n1 n1) (.slice v2 T T) Mk
  g : Below w.heap.size w W
theorem AtC.below {w W W' : World} {b3 b5 b7 n1 T : Nat} {u1 u2 v1 v2 : Option Addr} {M Mk : Mem} {d : DoV} (h : AtC w b3 b5 b7 n1 T u1 u2 v1 v2 M Mk d W) (hb : Below W.heap.size W W') : AtC w b3 b5 b7 n1 T u1 u2 v1 v2 M Mk d W' :=
  ⟨h.x3.below hb, h.x5.below hb, h.x7.below hb, h.mm.below hb, h.kk.below hb, h.g.trans (hb.mono h.g.size)⟩

set_option maxRecDepth 100000 in
set_option maxHeartbeats 12800000 in
theorem coheres_ok (T bF oF c1 : Nat) (ws : List Wd) (v : Value) (l : List DoV) (M : Mem) (hM : (newMem T ws).ress l = M) (t op at_ oa ob oc na nb nc z : Int) (w : World) (h0 : 0 < ws.length) (h1 : ws.length ≤ 8) (t0 : 1 ≤ T) (t1 : T ≤ 8)
    (hF : IsWords w (.slice (some ⟨bF, oF, none⟩) ws.length c1) ws) (hd : IsDos w v l) (hl : l.length ≤ 40) (hok : DosOk l) (p0 : -9223372036854775808 ≤ at_) (p1 : at_ < 9223372036854775808) (z0 : -9223372036854775808 ≤ z) (z1 : z < 9223372036854775808) :
    Calls Try.prog 4 #[.agg #[.int .i64 T, .slice (some ⟨bF, oF, none⟩) ws.length c1, v], .agg #[.int .i64 t, .int .i64 op, .int .i64 at_, .int .i64 oa, .int .u32 ob, .int .u32 oc, .int .i64 na, .int .u32 nb, .int .u32 nc, .int .i64 z]] w fun e w' => e = .returned (.bool true) ∧ Below w.heap.size w w' := by
  obtain ⟨y2, c2, rfl⟩ := hd.slice
  have hg := ress_good (newMem_good T ws (by omega) t1) l
  have hS := ress_sound (newMem_sound T ws) (newMem_good T ws (by omega) t1) l (by omega)
  rw [hM] at hg hS
  have hC := coh_res hS hg.1 (by omega) ⟨t, op, at_, oa, ob, oc, na, nb, nc, z⟩
  have hrg := hg.1.res ⟨t, op, at_, oa, ob, oc, na, nb, nc, z⟩
  obtain ⟨xa, xb, xc, hwd⟩ := res_words M ⟨t, op, at_, oa, ob, oc, na, nb, nc, z⟩
  obtain ⟨Mk, hMk⟩ : ∃ Mk, (M.res ⟨t, op, at_, oa, ob, oc, na, nb, nc, z⟩).1 = Mk := ⟨_, rfl⟩
  rw [hMk] at hC hrg
  obtain ⟨n1, hn1⟩ : ∃ n, ws.length = n := ⟨_, rfl⟩
  obtain ⟨n2, hn2⟩ : ∃ n, l.length = n := ⟨_, rfl⟩
  have e1 : M.hs.length = n1 := by rw [hg.2.1]; simp [newMem, hn1]
  have e2 : M.vs.length = T := by rw [hg.2.2]; simp [newMem]
  have HC := Lib.hid hC
  have HWD := Lib.hid hwd
  have HMK := Lib.hid hMk
  have HG := Lib.hid hg.1
  have HGK := Lib.hid hrg.1
  have E1 := Lib.hid e1
  have E2 := Lib.hid e2
  have EK1 := Lib.hid (hrg.2.1.trans e1)
  have EK2 := Lib.hid (hrg.2.2.trans e2)
  have HM := Lib.hid hM
  have HN1 := Lib.hid hn1
  have HN2 := Lib.hid hn2
  have HOK := Lib.hid hok
  have HW1 := Lib.hid h0
  have NB := Lib.hid (show 1 + l.length ≤ 999 by omega)
  have HDOK := Lib.hid (show DoV.Ok ⟨t, op, at_, oa, ob, oc, na, nb, nc, z⟩ from ⟨⟨p0, p1⟩, z0, z1⟩)
  have hbb := b2 w (.cells #[.int .i64 T, .slice (some ⟨bF, oF, none⟩) n1 c1, .slice y2 n2 c2] 25) (.cells #[.int .i64 t, .int .i64 op, .int .i64 at_, .int .i64 oa, .int .u32 ob, .int .u32 oc, .int .i64 na, .int .u32 nb, .int .u32 nc, .int .i64 z] 49)
  have FF := Lib.hid (hF.below hbb)
  have DD := Lib.hid (hd.below hbb)
  have LL := Lib.hid (show ∀ p, p < n1 → 0 < (M.hist p).length ∧ (M.hist p).length ≤ 41 from fun p hp => by have := hg.1.hist (p := p) (by omega); omega)
  rw [hn1] at h0 h1 FF ⊢
  rw [hn2] at hl DD ⊢
  have qN := neqW
  have X2 := Lib.hid (Box.alloc (Box.new w #[.int .i64 T, .slice (some ⟨bF, oF, none⟩) n1 c1, .slice y2 n2 c2] 25 rfl) (.cells #[.int .i64 t, .int .i64 op, .int .i64 at_, .int .i64 oa, .int .u32 ob, .int .u32 oc, .int .i64 na, .int .u32 nb, .int .u32 nc, .int .i64 z] 49))
  have X3 := Lib.hid (Box.new (w.alloc (.cells #[.int .i64 T, .slice (some ⟨bF, oF, none⟩) n1 c1, .slice y2 n2 c2] 25)) #[.int .i64 t, .int .i64 op, .int .i64 at_, .int .i64 oa, .int .u32 ob, .int .u32 oc, .int .i64 na, .int .u32 nb, .int .u32 nc, .int .i64 z] 49 (n := w.heap.size + 1) (by simp))
  have BB := Lib.hid hbb
  clear hbb hF hd hok hg hrg hM hwd hMk hC hS e1 e2 hn2
  go_enter Try.func4, Try.ntmps4
  go_wp2_with fail
  generalize (w.alloc (.cells #[.int .i64 T, .slice (some ⟨bF, oF, none⟩) n1 c1, .slice y2 n2 c2] 25)).alloc (.cells #[.int .i64 t, .int .i64 op, .int .i64 at_, .int .i64 oa, .int .u32 ob, .int .u32 oc, .int .i64 na, .int .u32 nb, .int .u32 nc, .int .i64 z] 49) = W0 at *
  obtain ⟨b3, hb3⟩ : ∃ br, w.heap.size + 1 = br := ⟨_, rfl⟩
  obtain ⟨b2, hb2⟩ : ∃ bp, w.heap.size = bp := ⟨_, rfl⟩
  have hbq := hb2
  rw [hb3] at X3 ⊢
  rw [hb2] at X2 hb3 ⊢
  refine (awake_any _).mono ?_
  rintro e a0 ⟨rfl, hb⟩
  replace X2 := Lib.hid (X2.out.below (hb))
  replace X3 := Lib.hid (X3.out.below (hb))
  replace FF := Lib.hid (FF.out.below (hb))
  replace DD := Lib.hid (DD.out.below (hb))
  replace BB := Lib.hid (BB.out.trans ((hb).mono BB.out.size))
  clear hb
  obtain ⟨⟨m0, m1, m2⟩, -⟩ := X2.out.cells3
  go_wp2_with fail
  clear m0 m1 m2
  have hbg : Calls Try.prog 16 #[.agg #[.int .i64 T, .slice (some ⟨bF, oF, none⟩) n1 c1, .slice y2 n2 c2]] a0 fun e w' => ∃ pv vv, e = .returned (.tuple #[.agg #[pv, vv], .bool true]) ∧ MD (fun b => a0.heap.size ≤ b) w' pv vv M ∧ Below a0.heap.size a0 w' := by
    rcases FF.out with ⟨a', c', he', hw'⟩ | ⟨b', o', c', he', hbl, hcc⟩
    · exfalso; have hz := HN1.out; rw [hw'] at hz; simp at hz; omega
    · rw [HN1.out] at he'
      simp only [Value.slice.injEq, Option.some.injEq, Addr.mk.injEq, and_true] at he'
      obtain ⟨⟨rfl, rfl⟩, -, rfl⟩ := he'
      have hq := begun_ok T bF oF c1 ws (.slice y2 n2 c2) l a0 HW1.out (by rw [HN1.out]; omega) t0 t1 hbl hcc DD.out (by rw [HN2.out]; omega) HOK.out
      rw [HN1.out, HM.out] at hq
      exact hq
  refine (hbg).mono ?_
  rintro e a1 ⟨pv, vv, rfl, hm, hb⟩
  replace X2 := Lib.hid (X2.out.below (hb))
  replace X3 := Lib.hid (X3.out.below (hb))
  replace FF := Lib.hid (FF.out.below (hb))
  replace DD := Lib.hid (DD.out.below (hb))
  replace BB := Lib.hid (BB.out.trans ((hb).mono BB.out.size))
  clear hb
  have MM := Lib.hid (hm)
  clear hm hbg
  obtain ⟨u1, u2, e1, e2⟩ := MM.out.sl E1.out E2.out
  subst e1 e2
  clear FF
  clear DD
  clear X2
  go_upto_region 4 with fail
  have hlt_b5 := BB.out.size
  have hlt_b5_X3 := X3.out.lt
  replace X3 := Lib.hid (X3.out.below (below_new a1 (.cells #[.slice u1 n1 n1, .slice u2 T T] 31)))
  replace MM := Lib.hid (MM.out.below (below_new a1 (.cells #[.slice u1 n1 n1, .slice u2 T T] 31)))
  replace BB := Lib.hid (BB.out.trans ((below_new a1 (.cells #[.slice u1 n1 n1, .slice u2 T T] 31)).mono BB.out.size))
  have B5 := Lib.hid (Box.new a1 #[.slice u1 n1 n1, .slice u2 T T] 31 rfl)
  have hsz_b5 : (World.alloc a1 (.cells #[.slice u1 n1 n1, .slice u2 T T] 31)).heap.size = (World.heap a1).size + 1 := by simp
  generalize World.alloc a1 (.cells #[.slice u1 n1 n1, .slice u2 T T] 31) = a2 at *
  generalize World.heap a1 = hp_b5 at *
  generalize hp_b5.size = b5 at *
  obtain ⟨⟨g0, g1⟩, -⟩ := B5.out.cells2
  obtain ⟨d0, d1, d2, d3, d4, d5, d6, d7, d8, d9⟩ := X3.out.all10
  go_wp2_with fail
  clear g0 g1
  clear d0 d1 d2 d3 d4 d5 d6 d7 d8 d9
  refine (do_any _ _ M (1 + l.length) ⟨t, op, at_, oa, ob, oc, na, nb, nc, z⟩ _ _ MM.out HG.out NB.out HDOK.out).mono ?_
  rintro e a3 ⟨pv, vv, rfl, hm, hb⟩
  replace X3 := Lib.hid (X3.out.below (hb))
  replace MM := Lib.hid (MM.out.below (hb))
  replace B5 := Lib.hid (B5.out.below (hb))
  replace BB := Lib.hid (BB.out.trans ((hb).mono BB.out.size))
  clear hb
  have MK := Lib.hid (hm)
  clear hm
  rw [HMK.out] at MK
  rw [HWD.out]
  obtain ⟨v1, v2, e1, e2⟩ := MK.out.sl EK1.out EK2.out
  subst e1 e2
  obtain ⟨dn, hdn⟩ : ∃ b, (M.res ⟨t, op, at_, oa, ob, oc, na, nb, nc, z⟩).2.2.1 = b := ⟨_, rfl⟩
  obtain ⟨er, her⟩ : ∃ b, (M.res ⟨t, op, at_, oa, ob, oc, na, nb, nc, z⟩).2.2.2 = b := ⟨_, rfl⟩
  rw [hdn, her]
  clear hdn her
  go_upto_region 7 with fail
  have hlt_b7 := BB.out.size
  have hlt_b7_X3 := X3.out.lt
  have hlt_b7_B5 := B5.out.lt
  replace X3 := Lib.hid (X3.out.below (below_new a3 (.cells #[.slice v1 n1 n1, .slice v2 T T] 31)))
  replace MM := Lib.hid (MM.out.below (below_new a3 (.cells #[.slice v1 n1 n1, .slice v2 T T] 31)))
  replace B5 := Lib.hid (B5.out.below (below_new a3 (.cells #[.slice v1 n1 n1, .slice v2 T T] 31)))
  replace MK := Lib.hid (MK.out.below (below_new a3 (.cells #[.slice v1 n1 n1, .slice v2 T T] 31)))
  replace BB := Lib.hid (BB.out.trans ((below_new a3 (.cells #[.slice v1 n1 n1, .slice v2 T T] 31)).mono BB.out.size))
  have B7 := Lib.hid (Box.new a3 #[.slice v1 n1 n1, .slice v2 T T] 31 rfl)
  have hsz_b7 : (World.alloc a3 (.cells #[.slice v1 n1 n1, .slice v2 T T] 31)).heap.size = (World.heap a3).size + 1 := by simp
  generalize World.alloc a3 (.cells #[.slice v1 n1 n1, .slice v2 T T] 31) = a4 at *
  generalize World.heap a3 = hp_b7 at *
  generalize hp_b7.size = b7 at *
  have hlt_b8 := BB.out.size
  replace X3 := Lib.hid (X3.out.below (below_new a4 (.cells #[.int .i64 xa, .int .u32 xb, .int .u32 xc] 45)))
  replace MM := Lib.hid (MM.out.below (below_new a4 (.cells #[.int .i64 xa, .int .u32 xb, .int .u32 xc] 45)))
  replace B5 := Lib.hid (B5.out.below (below_new a4 (.cells #[.int .i64 xa, .int .u32 xb, .int .u32 xc] 45)))
  replace MK := Lib.hid (MK.out.below (below_new a4 (.cells #[.int .i64 xa, .int .u32 xb, .int .u32 xc] 45)))
  replace B7 := Lib.hid (B7.out.below (below_new a4 (.cells #[.int .i64 xa, .int .u32 xb, .int .u32 xc] 45)))
  replace BB := Lib.hid (BB.out.trans ((below_new a4 (.cells #[.int .i64 xa, .int .u32 xb, .int .u32 xc] 45)).mono BB.out.size))
  have B8 := Lib.hid (Box.new a4 #[.int .i64 xa, .int .u32 xb, .int .u32 xc] 45 (n := b7 + 1) hsz_b7.symm)
  have hsz_b8 : (World.alloc a4 (.cells #[.int .i64 xa, .int .u32 xb, .int .u32 xc] 45)).heap.size = b7 + 1 + 1 := by simp [hsz_b7]
  rw [hsz_b7] at hlt_b8
  generalize World.alloc a4 (.cells #[.int .i64 xa, .int .u32 xb, .int .u32 xc] 45) = a5 at *
  obtain ⟨b8, hq_b8⟩ : ∃ b, b7 + 1 = b := ⟨_, rfl⟩
  rw [hq_b8] at B8 hsz_b8 ⊢
  obtain ⟨⟨g0, g1⟩, -⟩ := B5.out.cells2
  go_wp2_with fail
  clear g0 g1
  refine (size_any u1 u2 n1 T _).mono ?_
  rintro e a6 ⟨rfl, hb⟩
  replace X3 := Lib.hid (X3.out.below (hb))
  replace MM := Lib.hid (MM.out.below (hb))
  replace B5 := Lib.hid (B5.out.below (hb))
  replace MK := Lib.hid (MK.out.below (hb))
  replace B7 := Lib.hid (B7.out.below (hb))
  replace B8 := Lib.hid (B8.out.below (hb))
  replace BB := Lib.hid (BB.out.trans ((hb).mono BB.out.size))
  clear hb
  have A := Lib.hid (show AtC w b3 b5 b7 n1 T u1 u2 v1 v2 M Mk ⟨t, op, at_, oa, ob, oc, na, nb, nc, z⟩ a6 from ⟨X3.out, B5.out, B7.out, MM.out.mw, MK.out.mw, by first | exact BB.out | (rw [hbq]; exact BB.out)⟩)
  clear X3 B5 B7 B8 MM MK BB
  skip
  go_wp2_with fail
  go_loopw [13] (fun iv wr => ∃ p : Nat, p ≤ n1 ∧ iv = .int .i64 (p : Int) ∧ AtC w b3 b5 b7 n1 T u1 u2 v1 v2 M Mk ⟨t, op, at_, oa, ob, oc, na, nb, nc, z⟩ wr) (fun iv _ => n1 - (intOf iv).toNat)
  case atStart => exact ⟨0, by omega, by simp, A.out⟩
  case round =>
    obtain ⟨p, hp, rfl, hA⟩ := hrel
    clear A
    have A := Lib.hid hA
    clear hA
    by_cases hlt : p < n1
    · skip
      have hLL := LL.out p hlt
      obtain ⟨L, hL⟩ : ∃ L, (M.hist p).length = L := ⟨_, rfl⟩
      rw [hL] at hLL
      obtain ⟨hL0, hL1⟩ := hLL
      have HL := Lib.hid hL
      clear hL
      go_wp2_with fail
      go_loopw [15] (fun tv wr => ∃ k : Nat, k ≤ T ∧ tv = .int .i64 ((k : Int) + 1) ∧ AtC w b3 b5 b7 n1 T u1 u2 v1 v2 M Mk ⟨t, op, at_, oa, ob, oc, na, nb, nc, z⟩ wr) (fun tv _ => T + 1 - (intOf tv).toNat)
      case atStart => exact ⟨0, by omega, by simp, A.out⟩
      case round =>
        obtain ⟨k, hk, rfl, hA⟩ := hrel
        clear A
        have A := Lib.hid hA
        clear hA
        by_cases hkt : k < T
        · skip
          obtain ⟨x, hx⟩ : ∃ x, atL (M.view k) (p : Int) = x := ⟨_, rfl⟩
          obtain ⟨y, hy⟩ : ∃ y, atL (Mk.view k) (p : Int) = y := ⟨_, rfl⟩
          have hxy : x ≤ y := by rw [← hx, ← hy]; exact HC.out.u k p
          have HV := Lib.hid (show (k : Int) + 1 ≠ t → y = x from fun h => by rw [← hx, ← hy, HC.out.v k h])
          have HX := Lib.hid hx
          have HY := Lib.hid hy
          clear hx hy
          go_wp2_with fail
          replace A := Lib.hid (A.out.below ((Below.refl _ _).drew))
          refine wp_region_held_drew (S := fun w' => w'.cell? ⟨b5, 0, none⟩ = some (.slice u1 n1 n1) ∧ w'.cell? ⟨b5, 1, none⟩ = some (.slice u2 T T) ∧ w'.cell? ⟨b7, 0, none⟩ = some (.slice v1 n1 n1) ∧ w'.cell? ⟨b7, 1, none⟩ = some (.slice v2 T T)) (by kernel_rfl) ⟨(A.out.x5.cell 0), (A.out.x5.cell 1), (A.out.x7.cell 0), (A.out.x7.cell 1)⟩ (fun hHeld => ?_)
          generalize World.drew wr = V50 at *
          refine wpAnyH_take (i := 0) (oi := { dst := some 60, op := Op.load 31 (Operand.tmp 5), type := 31, pos := "law.go:152", after := #[], guard := none }) (v := ?d51_1xv0) rfl (by kernel_rfl) (by kernel_rfl) (by kernel_rfl) (fun _ _ _ h => h) (Or.inl ⟨by rfl, ?d51_1xy0⟩) (by assumption) ?d51_1xr0
          case d51_1xy0 => (intro w hSw; (try dsimp only at hSw); go_simp; try with_reducible rfl)
          (try simp only [Act.put])
          (try simp only [List.setIfInBounds_toArray])
          (try simp only [List.set_cons_succ])
          (try simp only [List.set_cons_zero])
          refine wpAnyH_take (i := 1) (oi := { dst := some 61, op := Op.move (Operand.tmp 15), type := 3, pos := "law.go:152", after := #[], guard := none }) (v := ?d51_2xv1) rfl (by kernel_rfl) (by kernel_rfl) (by kernel_rfl) (fun _ _ _ h => h) (Or.inl ⟨by rfl, ?d51_2xy1⟩) (by assumption) ?d51_2xr1
          case d51_2xy1 => (intro w hSw; (try dsimp only at hSw); go_simp; try with_reducible rfl)
          (try simp only [Act.put])
          (try simp only [List.setIfInBounds_toArray])
          (try simp only [List.set_cons_succ])
          (try simp only [List.set_cons_zero])
          refine wpAnyH_take (i := 3) (oi := { dst := some 63, op := Op.move (Operand.tmp 14), type := 42, pos := "law.go:152", after := #[], guard := none }) (v := ?d51_3xv3) rfl (by kernel_rfl) (by kernel_rfl) (by kernel_rfl) (fun _ _ _ h => h) (Or.inl ⟨by rfl, ?d51_3xy3⟩) (by assumption) ?d51_3xr3
          case d51_3xy3 => (intro w hSw; (try dsimp only at hSw); go_simp; try with_reducible rfl)
          (try simp only [Act.put])
          (try simp only [List.setIfInBounds_toArray])
          (try simp only [List.set_cons_succ])
          (try simp only [List.set_cons_zero])
          refine wpAnyH_take (i := 5) (oi := { dst := some 65, op := Op.load 31 (Operand.tmp 7), type := 31, pos := "law.go:152", after := #[], guard := none }) (v := ?d51_4xv5) rfl (by kernel_rfl) (by kernel_rfl) (by kernel_rfl) (fun _ _ _ h => h) (Or.inl ⟨by rfl, ?d51_4xy5⟩) (by assumption) ?d51_4xr5
          case d51_4xy5 => (intro w hSw; (try dsimp only at hSw); go_simp; try with_reducible rfl)
          (try simp only [Act.put])
          (try simp only [List.setIfInBounds_toArray])
          (try simp only [List.set_cons_succ])
          (try simp only [List.set_cons_zero])
          refine wpAnyH_take (i := 6) (oi := { dst := some 66, op := Op.move (Operand.tmp 15), type := 3, pos := "law.go:152", after := #[], guard := none }) (v := ?d51_5xv6) rfl (by kernel_rfl) (by kernel_rfl) (by kernel_rfl) (fun _ _ _ h => h) (Or.inl ⟨by rfl, ?d51_5xy6⟩) (by assumption) ?d51_5xr6
          case d51_5xy6 => (intro w hSw; (try dsimp only at hSw); go_simp; try with_reducible rfl)
          (try simp only [Act.put])
          (try simp only [List.setIfInBounds_toArray])
          (try simp only [List.set_cons_succ])
          (try simp only [List.set_cons_zero])
          refine wpAnyH_take (i := 8) (oi := { dst := some 68, op := Op.move (Operand.tmp 14), type := 42, pos := "law.go:152", after := #[], guard := none }) (v := ?d51_6xv8) rfl (by kernel_rfl) (by kernel_rfl) (by kernel_rfl) (fun _ _ _ h => h) (Or.inl ⟨by rfl, ?d51_6xy8⟩) (by assumption) ?d51_6xr8
          case d51_6xy8 => (intro w hSw; (try dsimp only at hSw); go_simp; try with_reducible rfl)
          (try simp only [Act.put])
          (try simp only [List.setIfInBounds_toArray])
          (try simp only [List.set_cons_succ])
          (try simp only [List.set_cons_zero])
          refine wpAnyH_ready (rs := [2]) (by kernel_rfl) (by simp) ?_
          refine AllReadyH.cons (o := { dst := some 62, op := Op.call { callee := Callee.value (Operand.func 18), args := #[Operand.tmp 60, Operand.tmp 61], argTypes := #[31, 3] }, type := 60, pos := "law.go:152", after := #[{ on := 0, ground := Ground.data }, { on := 1, ground := Ground.data }], guard := none }) rfl (fun K hK => ?_) AllReadyH.nil
          go_simp
          go_at_call 18
          refine (seen_ok _ _ M k _ A.out.mm (by rw [E2.out]; exact hkt) HG.out.nv).mono ?_
          rintro e v51 ⟨vp, rfl, hvw, hb⟩
          replace A := Lib.hid (A.out.below (hb))
          clear hb
          have V1 := Lib.hid (hvw)
          clear hvw
          go_simp
          refine hK.out _ _ ?_ (fun hHeld => ?_)
          · exact ⟨(A.out.x5.cell 0), (A.out.x5.cell 1), (A.out.x7.cell 0), (A.out.x7.cell 1)⟩
          clear hK K
          (try simp only [Act.put])
          (try simp only [List.setIfInBounds_toArray])
          (try simp only [List.set_cons_succ])
          (try simp only [List.set_cons_zero])
          refine wpAnyH_ready (rs := [4]) (by kernel_rfl) (by simp) ?_
          refine AllReadyH.cons (o := { dst := some 64, op := Op.call { callee := Callee.value (Operand.func 19), args := #[Operand.tmp 62, Operand.tmp 63], argTypes := #[60, 42] }, type := 3, pos := "law.go:152", after := #[{ on := 2, ground := Ground.data }, { on := 3, ground := Ground.data }, { on := 2, ground := Ground.chain }], guard := none }) rfl (fun K hK => ?_) AllReadyH.nil
          go_simp
          go_at_call 19
          refine (at_b _ _ _ _ (by omega) (by omega) V1.out).mono ?_
          rintro e v52 ⟨rfl, hb⟩
          replace A := Lib.hid (A.out.below (hb))
          replace V1 := Lib.hid (V1.out.below (hb))
          clear hb
          rw [HX.out]
          go_simp
          refine hK.out _ _ ?_ (fun hHeld => ?_)
          · exact ⟨(A.out.x5.cell 0), (A.out.x5.cell 1), (A.out.x7.cell 0), (A.out.x7.cell 1)⟩
          clear hK K
          (try simp only [Act.put])
          (try simp only [List.setIfInBounds_toArray])
          (try simp only [List.set_cons_succ])
          (try simp only [List.set_cons_zero])
          refine wpAnyH_ready (rs := [7]) (by kernel_rfl) (by simp) ?_
          refine AllReadyH.cons (o := { dst := some 67, op := Op.call { callee := Callee.value (Operand.func 18), args := #[Operand.tmp 65, Operand.tmp 66], argTypes := #[31, 3] }, type := 60, pos := "law.go:152", after := #[{ on := 5, ground := Ground.data }, { on := 6, ground := Ground.data }, { on := 4, ground := Ground.chain }], guard := none }) rfl (fun K hK => ?_) AllReadyH.nil
          go_simp
          go_at_call 18
          refine (seen_ok _ _ Mk k _ A.out.kk (by rw [EK2.out]; exact hkt) HGK.out.nv).mono ?_
          rintro e v53 ⟨vp', rfl, hvw, hb⟩
          replace A := Lib.hid (A.out.below (hb))
          replace V1 := Lib.hid (V1.out.below (hb))
          clear hb
          have V2 := Lib.hid (hvw)
          clear hvw
          go_simp
          refine hK.out _ _ ?_ (fun hHeld => ?_)
          · exact ⟨(A.out.x5.cell 0), (A.out.x5.cell 1), (A.out.x7.cell 0), (A.out.x7.cell 1)⟩
          clear hK K
          (try simp only [Act.put])
          (try simp only [List.setIfInBounds_toArray])
          (try simp only [List.set_cons_succ])
          (try simp only [List.set_cons_zero])
          refine wpAnyH_ready (rs := [9]) (by kernel_rfl) (by simp) ?_
          refine AllReadyH.cons (o := { dst := some 69, op := Op.call { callee := Callee.value (Operand.func 19), args := #[Operand.tmp 67, Operand.tmp 68], argTypes := #[60, 42] }, type := 3, pos := "law.go:152", after := #[{ on := 7, ground := Ground.data }, { on := 8, ground := Ground.data }, { on := 7, ground := Ground.chain }], guard := none }) rfl (fun K hK => ?_) AllReadyH.nil
          go_simp
          go_at_call 19
          refine (at_b _ _ _ _ (by omega) (by omega) V2.out).mono ?_
          rintro e v54 ⟨rfl, hb⟩
          replace A := Lib.hid (A.out.below (hb))
          replace V1 := Lib.hid (V1.out.below (hb))
          replace V2 := Lib.hid (V2.out.below (hb))
          clear hb
          rw [HY.out]
          go_simp
          refine hK.out _ _ ?_ (fun hHeld => ?_)
          · exact ⟨(A.out.x5.cell 0), (A.out.x5.cell 1), (A.out.x7.cell 0), (A.out.x7.cell 1)⟩
          clear hK K
          (try simp only [Act.put])
          (try simp only [List.setIfInBounds_toArray])
          (try simp only [List.set_cons_succ])
          (try simp only [List.set_cons_zero])
          refine wpAnyH_ready (rs := [10]) (by kernel_rfl) (by simp) ?_
          refine AllReadyH.cons (o := { dst := some 16, op := Op.assign (Operand.tmp 64), type := 3, pos := "law.go:152", after := #[{ on := 4, ground := Ground.data }, { on := 9, ground := Ground.chain }, { on := 0, ground := Ground.phase }, { on := 1, ground := Ground.phase }, { on := 2, ground := Ground.phase }, { on := 3, ground := Ground.phase }, { on := 4, ground := Ground.phase }, { on := 5, ground := Ground.textOnly Departure.lateStores }, { on := 6, ground := Ground.textOnly Departure.lateStores }, { on := 7, ground := Ground.textOnly Departure.lateStoresUnsure }, { on := 8, ground := Ground.textOnly Departure.lateStores }, { on := 9, ground := Ground.textOnly Departure.lateStoresUnsure }], guard := none }) rfl (fun K hK => ?_) AllReadyH.nil
          go_simp
          refine hK.out _ _ ?_ (fun hHeld => ?_)
          · exact ⟨(A.out.x5.cell 0), (A.out.x5.cell 1), (A.out.x7.cell 0), (A.out.x7.cell 1)⟩
          clear hK K
          (try simp only [Act.put])
          (try simp only [List.setIfInBounds_toArray])
          (try simp only [List.set_cons_succ])
          (try simp only [List.set_cons_zero])
          refine wpAnyH_ready (rs := [11]) (by kernel_rfl) (by simp) ?_
          refine AllReadyH.cons (o := { dst := some 17, op := Op.assign (Operand.tmp 69), type := 3, pos := "law.go:152", after := #[{ on := 9, ground := Ground.data }, { on := 10, ground := Ground.chain }, { on := 0, ground := Ground.phase }, { on := 1, ground := Ground.phase }, { on := 2, ground := Ground.phase }, { on := 3, ground := Ground.phase }, { on := 4, ground := Ground.phase }, { on := 5, ground := Ground.phase }, { on := 6, ground := Ground.phase }, { on := 7, ground := Ground.phase }, { on := 8, ground := Ground.phase }, { on := 9, ground := Ground.phase }, { on := 10, ground := Ground.phase }], guard := none }) rfl (fun K hK => ?_) AllReadyH.nil
          go_simp
          refine hK.out _ _ ?_ (fun hHeld => ?_)
          · exact ⟨(A.out.x5.cell 0), (A.out.x5.cell 1), (A.out.x7.cell 0), (A.out.x7.cell 1)⟩
          clear hK K
          (try simp only [Act.put])
          (try simp only [List.setIfInBounds_toArray])
          (try simp only [List.set_cons_succ])
          (try simp only [List.set_cons_zero])
          refine wpAnyH_done (by kernel_rfl) ?_ _
          by_cases htk : (k : Int) + 1 = t
          · skip
            have hb1 : (((k : Int) + 1) != t) = false := by simpa using htk
            obtain ⟨c0, -⟩ := A.out.x3.all10
            go_wp2
            go_roundw
            case rel => exact ⟨k + 1, by omega, by go_num, A.out⟩
            case measure => simp [intOf]; omega
          · skip
            have hb1 : (((k : Int) + 1) != t) = true := by simpa using htk
            obtain rfl := HV.out htk
            clear htk
            obtain ⟨c0, -⟩ := A.out.x3.all10
            go_wp2
            go_roundw
            case rel => exact ⟨k + 1, by omega, by go_num, A.out⟩
            case measure => simp [intOf]; omega
        · skip
          obtain ⟨⟨g0, g1⟩, -⟩ := A.out.x5.cells2
          go_wp2_with fail
          clear g0 g1
          refine (history_ok _ _ M p _ A.out.mm (by rw [E1.out]; exact hlt) HG.out.np).mono ?_
          rintro e y0 ⟨ha, q, rfl, hq, hhw, hb⟩
          replace A := Lib.hid (A.out.below (hb))
          clear hb
          have QQ := Lib.hid (hhw)
          rw [HL.out] at QQ ⊢
          have HQ := Lib.hid hq
          clear hq hhw
          go_upto_region 19 with fail
          replace A := Lib.hid (A.out.below (below_new y0 (.cells #[.slice ha L L] 65)))
          replace QQ := Lib.hid (QQ.out.below (below_new y0 (.cells #[.slice ha L L] 65)))
          have B18 := Lib.hid (Box.new y0 #[.slice ha L L] 65 rfl)
          generalize World.alloc y0 (.cells #[.slice ha L L] 65) = y1 at *
          generalize World.heap y0 = hp_b18 at *
          generalize hp_b18.size = b18 at *
          obtain ⟨⟨g0, g1⟩, -⟩ := A.out.x7.cells2
          go_wp2_with fail
          clear g0 g1
          refine (history_ok _ _ Mk p _ A.out.kk (by rw [EK1.out]; exact hlt) HGK.out.np).mono ?_
          rintro e y2 ⟨hz, qk, rfl, hq, hhw, hb⟩
          replace A := Lib.hid (A.out.below (hb))
          replace QQ := Lib.hid (QQ.out.below (hb))
          replace B18 := Lib.hid (B18.out.below (hb))
          clear hb
          have QK := Lib.hid (hhw)
          have HQK := Lib.hid hq
          clear hq hhw
          go_upto_region 20 with fail
          have HMS := Lib.hid (show ∀ i, i < L → Mk.msg p i = M.msg p i from fun i hi => HC.out.msg p i (by rw [HL.out]; exact hi))
          obtain ⟨LZ, hLZ⟩ : ∃ n, (Mk.hist p).length = n := ⟨_, rfl⟩
          have hcz : LZ = L ∨ (LZ = L + 1 ∧ (p : Int) = at_) := by
            rcases HC.out.h p with e | ⟨e1, g, e⟩
            · left; rw [← hLZ, e, HL.out]
            · right; exact ⟨by rw [← hLZ, e]; simp [HL.out], e1⟩
          have HLZ := Lib.hid hLZ
          rw [hLZ] at QK ⊢
          clear hLZ
          have HQL := Lib.hid (show q.length = L by have := congrArg List.length HQ.out; rw [List.length_map] at this; rw [this]; exact HL.out)
          have HQKL := Lib.hid (show qk.length = LZ by have := congrArg List.length HQK.out; rw [List.length_map] at this; rw [this]; exact HLZ.out)
          have hLZ41 : LZ ≤ 42 := by omega
          replace A := Lib.hid (A.out.below (below_new y2 (.cells #[.slice hz LZ LZ] 65)))
          replace QQ := Lib.hid (QQ.out.below (below_new y2 (.cells #[.slice hz LZ LZ] 65)))
          replace B18 := Lib.hid (B18.out.below (below_new y2 (.cells #[.slice hz LZ LZ] 65)))
          replace QK := Lib.hid (QK.out.below (below_new y2 (.cells #[.slice hz LZ LZ] 65)))
          have B20 := Lib.hid (Box.new y2 #[.slice hz LZ LZ] 65 rfl)
          generalize World.alloc y2 (.cells #[.slice hz LZ LZ] 65) = y3 at *
          generalize World.heap y2 = hp_b20 at *
          generalize hp_b20.size = b20 at *
          go_cut [122] (fun sx wx => sx = .bool false ∧ AtC w b3 b5 b7 n1 T u1 u2 v1 v2 M Mk ⟨t, op, at_, oa, ob, oc, na, nb, nc, z⟩ wx ∧ Box wx b18 #[.slice ha L L] 65 ∧ Box wx b20 #[.slice hz LZ LZ] 65 ∧ HW wx (.slice ha L L) q ∧ HW wx (.slice hz LZ LZ) qk)
          case first =>
            rcases hcz with rfl | ⟨rfl, hat⟩
            · skip
              have wL : IntKind.i64.wrap ((LZ : Int) + 1) = (LZ : Int) + 1 := IntWalk.i64_in _ ⟨by omega, by omega⟩
              have f1 : decide ((LZ : Int) + 1 < (LZ : Int)) = false := by rw [decide_eq_false_iff_not]; omega
              have f2 : decide (LZ + 1 < LZ) = false := by rw [decide_eq_false_iff_not]; omega
              have f3 : decide ((LZ : Int) < (LZ : Int)) = false := by rw [decide_eq_false_iff_not]; omega
              have f4 : decide (LZ < LZ) = false := by rw [decide_eq_false_iff_not]; omega
              replace A := Lib.hid (A.out.below ((Below.refl _ _).drew))
              replace QQ := Lib.hid (QQ.out.below ((Below.refl _ _).drew))
              replace B18 := Lib.hid (B18.out.below ((Below.refl _ _).drew))
              replace QK := Lib.hid (QK.out.below ((Below.refl _ _).drew))
              replace B20 := Lib.hid (B20.out.below ((Below.refl _ _).drew))
              refine wp_region_held_drew (S := fun w' => w'.cell? ⟨b18, 0, none⟩ = some (.slice ha LZ LZ) ∧ w'.cell? ⟨b20, 0, none⟩ = some (.slice hz LZ LZ) ∧ w'.cell? ⟨b3, 2, none⟩ = some (.int .i64 at_)) (by kernel_rfl) ⟨(B18.out.cell 0), (B20.out.cell 0), (A.out.x3.cell 2)⟩ (fun hHeld => ?_)
              generalize World.drew y3 = V55 at *
              refine wpAnyH_take (i := 0) (oi := { dst := some 96, op := Op.load 65 (Operand.tmp 20), type := 65, pos := "law.go:159", after := #[], guard := none }) (v := ?d56_1xv0) rfl (by kernel_rfl) (by kernel_rfl) (by kernel_rfl) (fun _ _ _ h => h) (Or.inl ⟨by rfl, ?d56_1xy0⟩) (by assumption) ?d56_1xr0
              case d56_1xy0 => (intro w hSw; (try dsimp only at hSw); go_simp; try with_reducible rfl)
              (try simp only [Act.put])
              (try simp only [List.setIfInBounds_toArray])
              (try simp only [List.set_cons_succ])
              (try simp only [List.set_cons_zero])
              refine wpAnyH_take (i := 2) (oi := { dst := some 98, op := Op.load 65 (Operand.tmp 18), type := 65, pos := "law.go:159", after := #[], guard := none }) (v := ?d56_2xv2) rfl (by kernel_rfl) (by kernel_rfl) (by kernel_rfl) (fun _ _ _ h => h) (Or.inl ⟨by rfl, ?d56_2xy2⟩) (by assumption) ?d56_2xr2
              case d56_2xy2 => (intro w hSw; (try dsimp only at hSw); go_simp; try with_reducible rfl)
              (try simp only [Act.put])
              (try simp only [List.setIfInBounds_toArray])
              (try simp only [List.set_cons_succ])
              (try simp only [List.set_cons_zero])
              refine wpAnyH_ready (rs := [1]) (by kernel_rfl) (by simp) ?_
              refine AllReadyH.cons (o := { dst := some 97, op := Op.call { callee := Callee.value (Operand.func 21), args := #[Operand.tmp 96], argTypes := #[65] }, type := 3, pos := "law.go:159", after := #[{ on := 0, ground := Ground.data }], guard := none }) rfl (fun K hK => ?_) AllReadyH.nil
              go_simp
              go_at_call 21
              refine (len_c _ _ _ _).mono ?_
              rintro e v56 ⟨rfl, hb⟩
              replace A := Lib.hid (A.out.below (hb))
              replace QQ := Lib.hid (QQ.out.below (hb))
              replace B18 := Lib.hid (B18.out.below (hb))
              replace QK := Lib.hid (QK.out.below (hb))
              replace B20 := Lib.hid (B20.out.below (hb))
              clear hb
              go_simp
              refine hK.out _ _ ?_ (fun hHeld => ?_)
              · exact ⟨(B18.out.cell 0), (B20.out.cell 0), (A.out.x3.cell 2)⟩
              clear hK K
              (try simp only [Act.put])
              (try simp only [List.setIfInBounds_toArray])
              (try simp only [List.set_cons_succ])
              (try simp only [List.set_cons_zero])
              refine wpAnyH_ready (rs := [3]) (by kernel_rfl) (by simp) ?_
              refine AllReadyH.cons (o := { dst := some 99, op := Op.call { callee := Callee.value (Operand.func 21), args := #[Operand.tmp 98], argTypes := #[65] }, type := 3, pos := "law.go:159", after := #[{ on := 2, ground := Ground.data }, { on := 1, ground := Ground.chain }], guard := none }) rfl (fun K hK => ?_) AllReadyH.nil
              go_simp
              go_at_call 21
              refine (len_c _ _ _ _).mono ?_
              rintro e v57 ⟨rfl, hb⟩
              replace A := Lib.hid (A.out.below (hb))
              replace QQ := Lib.hid (QQ.out.below (hb))
              replace B18 := Lib.hid (B18.out.below (hb))
              replace QK := Lib.hid (QK.out.below (hb))
              replace B20 := Lib.hid (B20.out.below (hb))
              clear hb
              go_simp
              refine hK.out _ _ ?_ (fun hHeld => ?_)
              · exact ⟨(B18.out.cell 0), (B20.out.cell 0), (A.out.x3.cell 2)⟩
              clear hK K
              (try simp only [Act.put])
              (try simp only [List.setIfInBounds_toArray])
              (try simp only [List.set_cons_succ])
              (try simp only [List.set_cons_zero])
              refine wpAnyH_take (i := 4) (oi := { dst := some 100, op := Op.binOp BinOp.lss 3 (Operand.tmp 97) (Operand.tmp 99) 3, type := 4, pos := "law.go:159", after := #[{ on := 1, ground := Ground.data }, { on := 3, ground := Ground.data }], guard := none }) (v := ?d58_3xv4) rfl (by kernel_rfl) (by kernel_rfl) (by kernel_rfl) (fun _ _ _ h => h) (Or.inl ⟨by rfl, ?d58_3xy4⟩) (by assumption) ?d58_3xr4
              case d58_3xy4 => (intro w hSw; (try dsimp only at hSw); go_simp; try with_reducible rfl)
              (try simp only [Act.put])
              (try simp only [List.setIfInBounds_toArray])
              (try simp only [List.set_cons_succ])
              (try simp only [List.set_cons_zero])
              refine wpAnyH_take (i := 5) (oi := { dst := some 101, op := Op.move (Operand.tmp 100), type := 4, pos := "law.go:159", after := #[{ on := 4, ground := Ground.data }, { on := 3, ground := Ground.chain }], guard := none }) (v := ?d58_4xv5) rfl (by kernel_rfl) (by kernel_rfl) (by kernel_rfl) (fun _ _ _ h => h) (Or.inl ⟨by rfl, ?d58_4xy5⟩) (by assumption) ?d58_4xr5
              case d58_4xy5 => (intro w hSw; (try dsimp only at hSw); go_simp; try with_reducible rfl)
              (try simp only [Act.put])
              (try simp only [List.setIfInBounds_toArray])
              (try simp only [List.set_cons_succ])
              (try simp only [List.set_cons_zero])
              refine wpAnyH_take (i := 6) (oi := { dst := some 102, op := Op.load 65 (Operand.tmp 20), type := 65, pos := "law.go:159", after := #[{ on := 5, ground := Ground.guard }], guard := some (5, false) }) (v := ?d58_5xv6) rfl (by kernel_rfl) (by kernel_rfl) (by kernel_rfl) (fun _ _ _ h => h) (Or.inl ⟨by rfl, ?d58_5xy6⟩) (by assumption) ?d58_5xr6
              case d58_5xy6 => (intro w hSw; (try dsimp only at hSw); go_simp; try with_reducible rfl)
              (try simp only [Act.put])
              (try simp only [List.setIfInBounds_toArray])
              (try simp only [List.set_cons_succ])
              (try simp only [List.set_cons_zero])
              refine wpAnyH_take (i := 8) (oi := { dst := some 104, op := Op.load 65 (Operand.tmp 18), type := 65, pos := "law.go:159", after := #[{ on := 5, ground := Ground.guard }], guard := some (5, false) }) (v := ?d58_6xv8) rfl (by kernel_rfl) (by kernel_rfl) (by kernel_rfl) (fun _ _ _ h => h) (Or.inl ⟨by rfl, ?d58_6xy8⟩) (by assumption) ?d58_6xr8
              case d58_6xy8 => (intro w hSw; (try dsimp only at hSw); go_simp; try with_reducible rfl)
              (try simp only [Act.put])
              (try simp only [List.setIfInBounds_toArray])
              (try simp only [List.set_cons_succ])
              (try simp only [List.set_cons_zero])
              refine wpAnyH_ready (rs := [7]) (by kernel_rfl) (by simp) ?_
              refine AllReadyH.cons (o := { dst := some 103, op := Op.call { callee := Callee.value (Operand.func 21), args := #[Operand.tmp 102], argTypes := #[65] }, type := 3, pos := "law.go:159", after := #[{ on := 6, ground := Ground.data }, { on := 5, ground := Ground.chain }, { on := 5, ground := Ground.guard }], guard := some (5, false) }) rfl (fun K hK => ?_) AllReadyH.nil
              go_simp
              go_at_call 21
              refine (len_c _ _ _ _).mono ?_
              rintro e v58 ⟨rfl, hb⟩
              replace A := Lib.hid (A.out.below (hb))
              replace QQ := Lib.hid (QQ.out.below (hb))
              replace B18 := Lib.hid (B18.out.below (hb))
              replace QK := Lib.hid (QK.out.below (hb))
              replace B20 := Lib.hid (B20.out.below (hb))
              clear hb
              go_simp
              refine hK.out _ _ ?_ (fun hHeld => ?_)
              · exact ⟨(B18.out.cell 0), (B20.out.cell 0), (A.out.x3.cell 2)⟩
              clear hK K
              (try simp only [Act.put])
              (try simp only [List.setIfInBounds_toArray])
              (try simp only [List.set_cons_succ])
              (try simp only [List.set_cons_zero])
              refine wpAnyH_ready (rs := [9]) (by kernel_rfl) (by simp) ?_
              refine AllReadyH.cons (o := { dst := some 105, op := Op.call { callee := Callee.value (Operand.func 21), args := #[Operand.tmp 104], argTypes := #[65] }, type := 3, pos := "law.go:159", after := #[{ on := 8, ground := Ground.data }, { on := 7, ground := Ground.chain }, { on := 5, ground := Ground.guard }], guard := some (5, false) }) rfl (fun K hK => ?_) AllReadyH.nil
              go_simp
              go_at_call 21
              refine (len_c _ _ _ _).mono ?_
              rintro e v59 ⟨rfl, hb⟩
              replace A := Lib.hid (A.out.below (hb))
              replace QQ := Lib.hid (QQ.out.below (hb))
              replace B18 := Lib.hid (B18.out.below (hb))
              replace QK := Lib.hid (QK.out.below (hb))
              replace B20 := Lib.hid (B20.out.below (hb))
              clear hb
              go_simp
              refine hK.out _ _ ?_ (fun hHeld => ?_)
              · exact ⟨(B18.out.cell 0), (B20.out.cell 0), (A.out.x3.cell 2)⟩
              clear hK K
              (try simp only [Act.put])
              (try simp only [List.setIfInBounds_toArray])
              (try simp only [List.set_cons_succ])
              (try simp only [List.set_cons_zero])
              refine wpAnyH_take (i := 10) (oi := { dst := some 106, op := Op.binOp BinOp.add 3 (Operand.tmp 105) (Operand.const (Value.int IntKind.i64 1)) 3, type := 3, pos := "law.go:159", after := #[{ on := 9, ground := Ground.data }, { on := 5, ground := Ground.guard }], guard := some (5, false) }) (v := ?d60_7xv10) rfl (by kernel_rfl) (by kernel_rfl) (by kernel_rfl) (fun _ _ _ h => h) (Or.inl ⟨by rfl, ?d60_7xy10⟩) (by assumption) ?d60_7xr10
              case d60_7xy10 => (intro w hSw; (try dsimp only at hSw); go_simp; try with_reducible rfl)
              (try simp only [Act.put])
              (try simp only [List.setIfInBounds_toArray])
              (try simp only [List.set_cons_succ])
              (try simp only [List.set_cons_zero])
              refine wpAnyH_take (i := 11) (oi := { dst := some 107, op := Op.binOp BinOp.gtr 3 (Operand.tmp 103) (Operand.tmp 106) 3, type := 4, pos := "law.go:159", after := #[{ on := 7, ground := Ground.data }, { on := 10, ground := Ground.data }, { on := 5, ground := Ground.guard }], guard := some (5, false) }) (v := ?d60_8xv11) rfl (by kernel_rfl) (by kernel_rfl) (by kernel_rfl) (fun _ _ _ h => h) (Or.inl ⟨by rfl, ?d60_8xy11⟩) (by assumption) ?d60_8xr11
              case d60_8xy11 => (intro w hSw; (try dsimp only at hSw); go_simp; try with_reducible rfl)
              (try simp only [Act.put])
              (try simp only [List.setIfInBounds_toArray])
              (try simp only [List.set_cons_succ])
              (try simp only [List.set_cons_zero])
              refine wpAnyH_take (i := 12) (oi := { dst := some 108, op := Op.pick (Operand.tmp 101) (Operand.const (Value.bool true)) (Operand.tmp 107), type := 4, pos := "law.go:159", after := #[{ on := 5, ground := Ground.data }, { on := 11, ground := Ground.data }], guard := none }) (v := ?d60_9xv12) rfl (by kernel_rfl) (by kernel_rfl) (by kernel_rfl) (fun _ _ _ h => h) (Or.inl ⟨by rfl, ?d60_9xy12⟩) (by assumption) ?d60_9xr12
              case d60_9xy12 => (intro w hSw; (try dsimp only at hSw); go_simp; try with_reducible rfl)
              (try simp only [Act.put])
              (try simp only [List.setIfInBounds_toArray])
              (try simp only [List.set_cons_succ])
              (try simp only [List.set_cons_zero])
              refine wpAnyH_take (i := 13) (oi := { dst := some 109, op := Op.move (Operand.tmp 108), type := 4, pos := "law.go:159", after := #[{ on := 12, ground := Ground.data }, { on := 9, ground := Ground.chain }], guard := none }) (v := ?d60_10xv13) rfl (by kernel_rfl) (by kernel_rfl) (by kernel_rfl) (fun _ _ _ h => h) (Or.inl ⟨by rfl, ?d60_10xy13⟩) (by assumption) ?d60_10xr13
              case d60_10xy13 => (intro w hSw; (try dsimp only at hSw); go_simp; try with_reducible rfl)
              (try simp only [Act.put])
              (try simp only [List.setIfInBounds_toArray])
              (try simp only [List.set_cons_succ])
              (try simp only [List.set_cons_zero])
              refine wpAnyH_take (i := 14) (oi := { dst := some 110, op := Op.load 65 (Operand.tmp 20), type := 65, pos := "law.go:159", after := #[{ on := 13, ground := Ground.guard }], guard := some (13, false) }) (v := ?d60_11xv14) rfl (by kernel_rfl) (by kernel_rfl) (by kernel_rfl) (fun _ _ _ h => h) (Or.inl ⟨by rfl, ?d60_11xy14⟩) (by assumption) ?d60_11xr14
              case d60_11xy14 => (intro w hSw; (try dsimp only at hSw); go_simp; try with_reducible rfl)
              (try simp only [Act.put])
              (try simp only [List.setIfInBounds_toArray])
              (try simp only [List.set_cons_succ])
              (try simp only [List.set_cons_zero])
              refine wpAnyH_take (i := 16) (oi := { dst := some 112, op := Op.load 65 (Operand.tmp 18), type := 65, pos := "law.go:159", after := #[{ on := 13, ground := Ground.guard }], guard := some (13, false) }) (v := ?d60_12xv16) rfl (by kernel_rfl) (by kernel_rfl) (by kernel_rfl) (fun _ _ _ h => h) (Or.inl ⟨by rfl, ?d60_12xy16⟩) (by assumption) ?d60_12xr16
              case d60_12xy16 => (intro w hSw; (try dsimp only at hSw); go_simp; try with_reducible rfl)
              (try simp only [Act.put])
              (try simp only [List.setIfInBounds_toArray])
              (try simp only [List.set_cons_succ])
              (try simp only [List.set_cons_zero])
              refine wpAnyH_ready (rs := [15]) (by kernel_rfl) (by simp) ?_
              refine AllReadyH.cons (o := { dst := some 111, op := Op.call { callee := Callee.value (Operand.func 21), args := #[Operand.tmp 110], argTypes := #[65] }, type := 3, pos := "law.go:159", after := #[{ on := 14, ground := Ground.data }, { on := 13, ground := Ground.chain }, { on := 13, ground := Ground.guard }], guard := some (13, false) }) rfl (fun K hK => ?_) AllReadyH.nil
              go_simp
              go_at_call 21
              refine (len_c _ _ _ _).mono ?_
              rintro e v60 ⟨rfl, hb⟩
              replace A := Lib.hid (A.out.below (hb))
              replace QQ := Lib.hid (QQ.out.below (hb))
              replace B18 := Lib.hid (B18.out.below (hb))
              replace QK := Lib.hid (QK.out.below (hb))
              replace B20 := Lib.hid (B20.out.below (hb))
              clear hb
              go_simp
              refine hK.out _ _ ?_ (fun hHeld => ?_)
              · exact ⟨(B18.out.cell 0), (B20.out.cell 0), (A.out.x3.cell 2)⟩
              clear hK K
              (try simp only [Act.put])
              (try simp only [List.setIfInBounds_toArray])
              (try simp only [List.set_cons_succ])
              (try simp only [List.set_cons_zero])
              refine wpAnyH_ready (rs := [17]) (by kernel_rfl) (by simp) ?_
              refine AllReadyH.cons (o := { dst := some 113, op := Op.call { callee := Callee.value (Operand.func 21), args := #[Operand.tmp 112], argTypes := #[65] }, type := 3, pos := "law.go:159", after := #[{ on := 16, ground := Ground.data }, { on := 15, ground := Ground.chain }, { on := 13, ground := Ground.guard }], guard := some (13, false) }) rfl (fun K hK => ?_) AllReadyH.nil
              go_simp
              go_at_call 21
              refine (len_c _ _ _ _).mono ?_
              rintro e v61 ⟨rfl, hb⟩
              replace A := Lib.hid (A.out.below (hb))
              replace QQ := Lib.hid (QQ.out.below (hb))
              replace B18 := Lib.hid (B18.out.below (hb))
              replace QK := Lib.hid (QK.out.below (hb))
              replace B20 := Lib.hid (B20.out.below (hb))
              clear hb
              go_simp
              refine hK.out _ _ ?_ (fun hHeld => ?_)
              · exact ⟨(B18.out.cell 0), (B20.out.cell 0), (A.out.x3.cell 2)⟩
              clear hK K
              (try simp only [Act.put])
              (try simp only [List.setIfInBounds_toArray])
              (try simp only [List.set_cons_succ])
              (try simp only [List.set_cons_zero])
              refine wpAnyH_take (i := 18) (oi := { dst := some 114, op := Op.binOp BinOp.gtr 3 (Operand.tmp 111) (Operand.tmp 113) 3, type := 4, pos := "law.go:159", after := #[{ on := 15, ground := Ground.data }, { on := 17, ground := Ground.data }, { on := 13, ground := Ground.guard }], guard := some (13, false) }) (v := ?d62_13xv18) rfl (by kernel_rfl) (by kernel_rfl) (by kernel_rfl) (fun _ _ _ h => h) (Or.inl ⟨by rfl, ?d62_13xy18⟩) (by assumption) ?d62_13xr18
              case d62_13xy18 => (intro w hSw; (try dsimp only at hSw); go_simp; try with_reducible rfl)
              (try simp only [Act.put])
              (try simp only [List.setIfInBounds_toArray])
              (try simp only [List.set_cons_succ])
              (try simp only [List.set_cons_zero])
              refine wpAnyH_take (i := 19) (oi := { dst := some 115, op := Op.move (Operand.tmp 114), type := 4, pos := "law.go:159", after := #[{ on := 18, ground := Ground.data }, { on := 17, ground := Ground.chain }, { on := 13, ground := Ground.guard }], guard := some (13, false) }) (v := ?d62_14xv19) rfl (by kernel_rfl) (by kernel_rfl) (by kernel_rfl) (fun _ _ _ h => h) (Or.inl ⟨by rfl, ?d62_14xy19⟩) (by assumption) ?d62_14xr19
              case d62_14xy19 => (intro w hSw; (try dsimp only at hSw); go_simp; try with_reducible rfl)
              (try simp only [Act.put])
              (try simp only [List.setIfInBounds_toArray])
              (try simp only [List.set_cons_succ])
              (try simp only [List.set_cons_zero])
              refine wpAnyH_take (i := 20) (oi := { dst := some 116, op := Op.fieldAddr 49 (Operand.tmp 3) 1, type := 0, pos := "law.go:159", after := #[{ on := 19, ground := Ground.guard }], guard := some (19, true) }) (v := undef) rfl (by kernel_rfl) (by kernel_rfl) (by kernel_rfl) (fun _ _ _ h => h) (Or.inr ⟨by kernel_rfl, rfl⟩) (by assumption) ?d62_15xr20
              (try simp only [Act.put])
              (try simp only [List.setIfInBounds_toArray])
              (try simp only [List.set_cons_succ])
              (try simp only [List.set_cons_zero])
              refine wpAnyH_take (i := 21) (oi := { dst := some 117, op := Op.fieldAddr 47 (Operand.tmp 116) 1, type := 0, pos := "law.go:159", after := #[{ on := 20, ground := Ground.data }, { on := 19, ground := Ground.guard }], guard := some (19, true) }) (v := undef) rfl (by kernel_rfl) (by kernel_rfl) (by kernel_rfl) (fun _ _ _ h => h) (Or.inr ⟨by kernel_rfl, rfl⟩) (by assumption) ?d62_16xr21
              (try simp only [Act.put])
              (try simp only [List.setIfInBounds_toArray])
              (try simp only [List.set_cons_succ])
              (try simp only [List.set_cons_zero])
              refine wpAnyH_take (i := 22) (oi := { dst := some 118, op := Op.load 42 (Operand.tmp 117), type := 42, pos := "law.go:159", after := #[{ on := 21, ground := Ground.data }, { on := 19, ground := Ground.guard }], guard := some (19, true) }) (v := undef) rfl (by kernel_rfl) (by kernel_rfl) (by kernel_rfl) (fun _ _ _ h => h) (Or.inr ⟨by kernel_rfl, rfl⟩) (by assumption) ?d62_17xr22
              (try simp only [Act.put])
              (try simp only [List.setIfInBounds_toArray])
              (try simp only [List.set_cons_succ])
              (try simp only [List.set_cons_zero])
              refine wpAnyH_take (i := 23) (oi := { dst := some 119, op := Op.move (Operand.tmp 14), type := 42, pos := "law.go:159", after := #[{ on := 19, ground := Ground.guard }], guard := some (19, true) }) (v := undef) rfl (by kernel_rfl) (by kernel_rfl) (by kernel_rfl) (fun _ _ _ h => h) (Or.inr ⟨by kernel_rfl, rfl⟩) (by assumption) ?d62_18xr23
              (try simp only [Act.put])
              (try simp only [List.setIfInBounds_toArray])
              (try simp only [List.set_cons_succ])
              (try simp only [List.set_cons_zero])
              refine wpAnyH_take (i := 24) (oi := { dst := some 120, op := Op.binOp BinOp.neq 42 (Operand.tmp 118) (Operand.tmp 119) 42, type := 4, pos := "law.go:159", after := #[{ on := 22, ground := Ground.data }, { on := 23, ground := Ground.data }, { on := 19, ground := Ground.guard }], guard := some (19, true) }) (v := undef) rfl (by kernel_rfl) (by kernel_rfl) (by kernel_rfl) (fun _ _ _ h => h) (Or.inr ⟨by kernel_rfl, rfl⟩) (by assumption) ?d62_19xr24
              (try simp only [Act.put])
              (try simp only [List.setIfInBounds_toArray])
              (try simp only [List.set_cons_succ])
              (try simp only [List.set_cons_zero])
              refine wpAnyH_take (i := 25) (oi := { dst := some 121, op := Op.pick (Operand.tmp 115) (Operand.tmp 120) (Operand.const (Value.bool false)), type := 4, pos := "law.go:159", after := #[{ on := 19, ground := Ground.data }, { on := 24, ground := Ground.data }, { on := 13, ground := Ground.guard }], guard := some (13, false) }) (v := ?d62_20xv25) rfl (by kernel_rfl) (by kernel_rfl) (by kernel_rfl) (fun _ _ _ h => h) (Or.inl ⟨by rfl, ?d62_20xy25⟩) (by assumption) ?d62_20xr25
              case d62_20xy25 => (intro w hSw; (try dsimp only at hSw); go_simp; try with_reducible rfl)
              (try simp only [Act.put])
              (try simp only [List.setIfInBounds_toArray])
              (try simp only [List.set_cons_succ])
              (try simp only [List.set_cons_zero])
              refine wpAnyH_take (i := 26) (oi := { dst := some 122, op := Op.pick (Operand.tmp 109) (Operand.const (Value.bool true)) (Operand.tmp 121), type := 4, pos := "law.go:159", after := #[{ on := 13, ground := Ground.data }, { on := 25, ground := Ground.data }], guard := none }) (v := ?d62_21xv26) rfl (by kernel_rfl) (by kernel_rfl) (by kernel_rfl) (fun _ _ _ h => h) (Or.inl ⟨by rfl, ?d62_21xy26⟩) (by assumption) ?d62_21xr26
              case d62_21xy26 => (intro w hSw; (try dsimp only at hSw); go_simp; try with_reducible rfl)
              (try simp only [Act.put])
              (try simp only [List.setIfInBounds_toArray])
              (try simp only [List.set_cons_succ])
              (try simp only [List.set_cons_zero])
              refine wpAnyH_done (by kernel_rfl) ?_ _
              go_wp2_with fail
              go_meet
              exact ⟨by simp, A.out, B18.out, B20.out, QQ.out, QK.out⟩
            · skip
              have wL : IntKind.i64.wrap ((L : Int) + 1) = (L : Int) + 1 := IntWalk.i64_in _ ⟨by omega, by omega⟩
              have hatb : (at_ != (p : Int)) = false := by simp [hat]
              clear hat
              have f1 : decide ((L : Int) + 1 < (L : Int)) = false := by rw [decide_eq_false_iff_not]; omega
              have f2 : decide (L + 1 < L) = false := by rw [decide_eq_false_iff_not]; omega
              have f3 : decide ((L : Int) < (L : Int) + 1) = true := by rw [decide_eq_true_iff]; omega
              have f4 : decide (L < L + 1) = true := by rw [decide_eq_true_iff]; omega
              have f5 : decide ((L : Int) + 1 < (L : Int) + 1) = false := by rw [decide_eq_false_iff_not]; omega
              replace A := Lib.hid (A.out.below ((Below.refl _ _).drew))
              replace QQ := Lib.hid (QQ.out.below ((Below.refl _ _).drew))
              replace B18 := Lib.hid (B18.out.below ((Below.refl _ _).drew))
              replace QK := Lib.hid (QK.out.below ((Below.refl _ _).drew))
              replace B20 := Lib.hid (B20.out.below ((Below.refl _ _).drew))
              refine wp_region_held_drew (S := fun w' => w'.cell? ⟨b18, 0, none⟩ = some (.slice ha L L) ∧ w'.cell? ⟨b20, 0, none⟩ = some (.slice hz (L + 1) (L + 1)) ∧ w'.cell? ⟨b3, 2, none⟩ = some (.int .i64 at_)) (by kernel_rfl) ⟨(B18.out.cell 0), (B20.out.cell 0), (A.out.x3.cell 2)⟩ (fun hHeld => ?_)
              generalize World.drew y3 = V62 at *
              refine wpAnyH_take (i := 0) (oi := { dst := some 96, op := Op.load 65 (Operand.tmp 20), type := 65, pos := "law.go:159", after := #[], guard := none }) (v := ?d63_1xv0) rfl (by kernel_rfl) (by kernel_rfl) (by kernel_rfl) (fun _ _ _ h => h) (Or.inl ⟨by rfl, ?d63_1xy0⟩) (by assumption) ?d63_1xr0
              case d63_1xy0 => (intro w hSw; (try dsimp only at hSw); go_simp; try with_reducible rfl)
              (try simp only [Act.put])
              (try simp only [List.setIfInBounds_toArray])
              (try simp only [List.set_cons_succ])
              (try simp only [List.set_cons_zero])
              refine wpAnyH_take (i := 2) (oi := { dst := some 98, op := Op.load 65 (Operand.tmp 18), type := 65, pos := "law.go:159", after := #[], guard := none }) (v := ?d63_2xv2) rfl (by kernel_rfl) (by kernel_rfl) (by kernel_rfl) (fun _ _ _ h => h) (Or.inl ⟨by rfl, ?d63_2xy2⟩) (by assumption) ?d63_2xr2
              case d63_2xy2 => (intro w hSw; (try dsimp only at hSw); go_simp; try with_reducible rfl)
              (try simp only [Act.put])
              (try simp only [List.setIfInBounds_toArray])
              (try simp only [List.set_cons_succ])
              (try simp only [List.set_cons_zero])
              refine wpAnyH_ready (rs := [1]) (by kernel_rfl) (by simp) ?_
              refine AllReadyH.cons (o := { dst := some 97, op := Op.call { callee := Callee.value (Operand.func 21), args := #[Operand.tmp 96], argTypes := #[65] }, type := 3, pos := "law.go:159", after := #[{ on := 0, ground := Ground.data }], guard := none }) rfl (fun K hK => ?_) AllReadyH.nil
              go_simp
              go_at_call 21
              refine (len_c _ _ _ _).mono ?_
              rintro e v63 ⟨rfl, hb⟩
              replace A := Lib.hid (A.out.below (hb))
              replace QQ := Lib.hid (QQ.out.below (hb))
              replace B18 := Lib.hid (B18.out.below (hb))
              replace QK := Lib.hid (QK.out.below (hb))
              replace B20 := Lib.hid (B20.out.below (hb))
              clear hb
              go_simp
              refine hK.out _ _ ?_ (fun hHeld => ?_)
              · exact ⟨(B18.out.cell 0), (B20.out.cell 0), (A.out.x3.cell 2)⟩
              clear hK K
              (try simp only [Act.put])
              (try simp only [List.setIfInBounds_toArray])
              (try simp only [List.set_cons_succ])
              (try simp only [List.set_cons_zero])
              refine wpAnyH_ready (rs := [3]) (by kernel_rfl) (by simp) ?_
              refine AllReadyH.cons (o := { dst := some 99, op := Op.call { callee := Callee.value (Operand.func 21), args := #[Operand.tmp 98], argTypes := #[65] }, type := 3, pos := "law.go:159", after := #[{ on := 2, ground := Ground.data }, { on := 1, ground := Ground.chain }], guard := none }) rfl (fun K hK => ?_) AllReadyH.nil
              go_simp
              go_at_call 21
              refine (len_c _ _ _ _).mono ?_
              rintro e v64 ⟨rfl, hb⟩
              replace A := Lib.hid (A.out.below (hb))
              replace QQ := Lib.hid (QQ.out.below (hb))
              replace B18 := Lib.hid (B18.out.below (hb))
              replace QK := Lib.hid (QK.out.below (hb))
              replace B20 := Lib.hid (B20.out.below (hb))
              clear hb
              go_simp
              refine hK.out _ _ ?_ (fun hHeld => ?_)
              · exact ⟨(B18.out.cell 0), (B20.out.cell 0), (A.out.x3.cell 2)⟩
              clear hK K
              (try simp only [Act.put])
              (try simp only [List.setIfInBounds_toArray])
              (try simp only [List.set_cons_succ])
              (try simp only [List.set_cons_zero])
              refine wpAnyH_take (i := 4) (oi := { dst := some 100, op := Op.binOp BinOp.lss 3 (Operand.tmp 97) (Operand.tmp 99) 3, type := 4, pos := "law.go:159", after := #[{ on := 1, ground := Ground.data }, { on := 3, ground := Ground.data }], guard := none }) (v := ?d65_3xv4) rfl (by kernel_rfl) (by kernel_rfl) (by kernel_rfl) (fun _ _ _ h => h) (Or.inl ⟨by rfl, ?d65_3xy4⟩) (by assumption) ?d65_3xr4
              case d65_3xy4 => (intro w hSw; (try dsimp only at hSw); go_simp; try with_reducible rfl)
              (try simp only [Act.put])
              (try simp only [List.setIfInBounds_toArray])
              (try simp only [List.set_cons_succ])
              (try simp only [List.set_cons_zero])
              refine wpAnyH_take (i := 5) (oi := { dst := some 101, op := Op.move (Operand.tmp 100), type := 4, pos := "law.go:159", after := #[{ on := 4, ground := Ground.data }, { on := 3, ground := Ground.chain }], guard := none }) (v := ?d65_4xv5) rfl (by kernel_rfl) (by kernel_rfl) (by kernel_rfl) (fun _ _ _ h => h) (Or.inl ⟨by rfl, ?d65_4xy5⟩) (by assumption) ?d65_4xr5
              case d65_4xy5 => (intro w hSw; (try dsimp only at hSw); go_simp; try with_reducible rfl)
              (try simp only [Act.put])
              (try simp only [List.setIfInBounds_toArray])
              (try simp only [List.set_cons_succ])
              (try simp only [List.set_cons_zero])
              refine wpAnyH_take (i := 6) (oi := { dst := some 102, op := Op.load 65 (Operand.tmp 20), type := 65, pos := "law.go:159", after := #[{ on := 5, ground := Ground.guard }], guard := some (5, false) }) (v := ?d65_5xv6) rfl (by kernel_rfl) (by kernel_rfl) (by kernel_rfl) (fun _ _ _ h => h) (Or.inl ⟨by rfl, ?d65_5xy6⟩) (by assumption) ?d65_5xr6
              case d65_5xy6 => (intro w hSw; (try dsimp only at hSw); go_simp; try with_reducible rfl)
              (try simp only [Act.put])
              (try simp only [List.setIfInBounds_toArray])
              (try simp only [List.set_cons_succ])
              (try simp only [List.set_cons_zero])
              refine wpAnyH_take (i := 8) (oi := { dst := some 104, op := Op.load 65 (Operand.tmp 18), type := 65, pos := "law.go:159", after := #[{ on := 5, ground := Ground.guard }], guard := some (5, false) }) (v := ?d65_6xv8) rfl (by kernel_rfl) (by kernel_rfl) (by kernel_rfl) (fun _ _ _ h => h) (Or.inl ⟨by rfl, ?d65_6xy8⟩) (by assumption) ?d65_6xr8
              case d65_6xy8 => (intro w hSw; (try dsimp only at hSw); go_simp; try with_reducible rfl)
              (try simp only [Act.put])
              (try simp only [List.setIfInBounds_toArray])
              (try simp only [List.set_cons_succ])
              (try simp only [List.set_cons_zero])
              refine wpAnyH_ready (rs := [7]) (by kernel_rfl) (by simp) ?_
              refine AllReadyH.cons (o := { dst := some 103, op := Op.call { callee := Callee.value (Operand.func 21), args := #[Operand.tmp 102], argTypes := #[65] }, type := 3, pos := "law.go:159", after := #[{ on := 6, ground := Ground.data }, { on := 5, ground := Ground.chain }, { on := 5, ground := Ground.guard }], guard := some (5, false) }) rfl (fun K hK => ?_) AllReadyH.nil
              go_simp
              go_at_call 21
              refine (len_c _ _ _ _).mono ?_
              rintro e v65 ⟨rfl, hb⟩
              replace A := Lib.hid (A.out.below (hb))
              replace QQ := Lib.hid (QQ.out.below (hb))
              replace B18 := Lib.hid (B18.out.below (hb))
              replace QK := Lib.hid (QK.out.below (hb))
              replace B20 := Lib.hid (B20.out.below (hb))
              clear hb
              go_simp
              refine hK.out _ _ ?_ (fun hHeld => ?_)
              · exact ⟨(B18.out.cell 0), (B20.out.cell 0), (A.out.x3.cell 2)⟩
              clear hK K
              (try simp only [Act.put])
              (try simp only [List.setIfInBounds_toArray])
              (try simp only [List.set_cons_succ])
              (try simp only [List.set_cons_zero])
              refine wpAnyH_ready (rs := [9]) (by kernel_rfl) (by simp) ?_
              refine AllReadyH.cons (o := { dst := some 105, op := Op.call { callee := Callee.value (Operand.func 21), args := #[Operand.tmp 104], argTypes := #[65] }, type := 3, pos := "law.go:159", after := #[{ on := 8, ground := Ground.data }, { on := 7, ground := Ground.chain }, { on := 5, ground := Ground.guard }], guard := some (5, false) }) rfl (fun K hK => ?_) AllReadyH.nil
              go_simp
              go_at_call 21
              refine (len_c _ _ _ _).mono ?_
              rintro e v66 ⟨rfl, hb⟩
              replace A := Lib.hid (A.out.below (hb))
              replace QQ := Lib.hid (QQ.out.below (hb))
              replace B18 := Lib.hid (B18.out.below (hb))
              replace QK := Lib.hid (QK.out.below (hb))
              replace B20 := Lib.hid (B20.out.below (hb))
              clear hb
              go_simp
              refine hK.out _ _ ?_ (fun hHeld => ?_)
              · exact ⟨(B18.out.cell 0), (B20.out.cell 0), (A.out.x3.cell 2)⟩
              clear hK K
              (try simp only [Act.put])
              (try simp only [List.setIfInBounds_toArray])
              (try simp only [List.set_cons_succ])
              (try simp only [List.set_cons_zero])
              refine wpAnyH_take (i := 10) (oi := { dst := some 106, op := Op.binOp BinOp.add 3 (Operand.tmp 105) (Operand.const (Value.int IntKind.i64 1)) 3, type := 3, pos := "law.go:159", after := #[{ on := 9, ground := Ground.data }, { on := 5, ground := Ground.guard }], guard := some (5, false) }) (v := ?d67_7xv10) rfl (by kernel_rfl) (by kernel_rfl) (by kernel_rfl) (fun _ _ _ h => h) (Or.inl ⟨by rfl, ?d67_7xy10⟩) (by assumption) ?d67_7xr10
              case d67_7xy10 => (intro w hSw; (try dsimp only at hSw); go_simp; try with_reducible rfl)
              (try simp only [Act.put])
              (try simp only [List.setIfInBounds_toArray])
              (try simp only [List.set_cons_succ])
              (try simp only [List.set_cons_zero])
              refine wpAnyH_take (i := 11) (oi := { dst := some 107, op := Op.binOp BinOp.gtr 3 (Operand.tmp 103) (Operand.tmp 106) 3, type := 4, pos := "law.go:159", after := #[{ on := 7, ground := Ground.data }, { on := 10, ground := Ground.data }, { on := 5, ground := Ground.guard }], guard := some (5, false) }) (v := ?d67_8xv11) rfl (by kernel_rfl) (by kernel_rfl) (by kernel_rfl) (fun _ _ _ h => h) (Or.inl ⟨by rfl, ?d67_8xy11⟩) (by assumption) ?d67_8xr11
              case d67_8xy11 => (intro w hSw; (try dsimp only at hSw); go_simp; try with_reducible rfl)
              (try simp only [Act.put])
              (try simp only [List.setIfInBounds_toArray])
              (try simp only [List.set_cons_succ])
              (try simp only [List.set_cons_zero])
              refine wpAnyH_take (i := 12) (oi := { dst := some 108, op := Op.pick (Operand.tmp 101) (Operand.const (Value.bool true)) (Operand.tmp 107), type := 4, pos := "law.go:159", after := #[{ on := 5, ground := Ground.data }, { on := 11, ground := Ground.data }], guard := none }) (v := ?d67_9xv12) rfl (by kernel_rfl) (by kernel_rfl) (by kernel_rfl) (fun _ _ _ h => h) (Or.inl ⟨by rfl, ?d67_9xy12⟩) (by assumption) ?d67_9xr12
              case d67_9xy12 => (intro w hSw; (try dsimp only at hSw); go_simp; try with_reducible rfl)
              (try simp only [Act.put])
              (try simp only [List.setIfInBounds_toArray])
              (try simp only [List.set_cons_succ])
              (try simp only [List.set_cons_zero])
              refine wpAnyH_take (i := 13) (oi := { dst := some 109, op := Op.move (Operand.tmp 108), type := 4, pos := "law.go:159", after := #[{ on := 12, ground := Ground.data }, { on := 9, ground := Ground.chain }], guard := none }) (v := ?d67_10xv13) rfl (by kernel_rfl) (by kernel_rfl) (by kernel_rfl) (fun _ _ _ h => h) (Or.inl ⟨by rfl, ?d67_10xy13⟩) (by assumption) ?d67_10xr13
              case d67_10xy13 => (intro w hSw; (try dsimp only at hSw); go_simp; try with_reducible rfl)
              (try simp only [Act.put])
              (try simp only [List.setIfInBounds_toArray])
              (try simp only [List.set_cons_succ])
              (try simp only [List.set_cons_zero])
              refine wpAnyH_take (i := 14) (oi := { dst := some 110, op := Op.load 65 (Operand.tmp 20), type := 65, pos := "law.go:159", after := #[{ on := 13, ground := Ground.guard }], guard := some (13, false) }) (v := ?d67_11xv14) rfl (by kernel_rfl) (by kernel_rfl) (by kernel_rfl) (fun _ _ _ h => h) (Or.inl ⟨by rfl, ?d67_11xy14⟩) (by assumption) ?d67_11xr14
              case d67_11xy14 => (intro w hSw; (try dsimp only at hSw); go_simp; try with_reducible rfl)
              (try simp only [Act.put])
              (try simp only [List.setIfInBounds_toArray])
              (try simp only [List.set_cons_succ])
              (try simp only [List.set_cons_zero])
              refine wpAnyH_take (i := 16) (oi := { dst := some 112, op := Op.load 65 (Operand.tmp 18), type := 65, pos := "law.go:159", after := #[{ on := 13, ground := Ground.guard }], guard := some (13, false) }) (v := ?d67_12xv16) rfl (by kernel_rfl) (by kernel_rfl) (by kernel_rfl) (fun _ _ _ h => h) (Or.inl ⟨by rfl, ?d67_12xy16⟩) (by assumption) ?d67_12xr16
              case d67_12xy16 => (intro w hSw; (try dsimp only at hSw); go_simp; try with_reducible rfl)
              (try simp only [Act.put])
              (try simp only [List.setIfInBounds_toArray])
              (try simp only [List.set_cons_succ])
              (try simp only [List.set_cons_zero])
              refine wpAnyH_ready (rs := [15]) (by kernel_rfl) (by simp) ?_
              refine AllReadyH.cons (o := { dst := some 111, op := Op.call { callee := Callee.value (Operand.func 21), args := #[Operand.tmp 110], argTypes := #[65] }, type := 3, pos := "law.go:159", after := #[{ on := 14, ground := Ground.data }, { on := 13, ground := Ground.chain }, { on := 13, ground := Ground.guard }], guard := some (13, false) }) rfl (fun K hK => ?_) AllReadyH.nil
              go_simp
              go_at_call 21
              refine (len_c _ _ _ _).mono ?_
              rintro e v67 ⟨rfl, hb⟩
              replace A := Lib.hid (A.out.below (hb))
              replace QQ := Lib.hid (QQ.out.below (hb))
              replace B18 := Lib.hid (B18.out.below (hb))
              replace QK := Lib.hid (QK.out.below (hb))
              replace B20 := Lib.hid (B20.out.below (hb))
              clear hb
              go_simp
              refine hK.out _ _ ?_ (fun hHeld => ?_)
              · exact ⟨(B18.out.cell 0), (B20.out.cell 0), (A.out.x3.cell 2)⟩
              clear hK K
              (try simp only [Act.put])
              (try simp only [List.setIfInBounds_toArray])
              (try simp only [List.set_cons_succ])
              (try simp only [List.set_cons_zero])
              refine wpAnyH_ready (rs := [17]) (by kernel_rfl) (by simp) ?_
              refine AllReadyH.cons (o := { dst := some 113, op := Op.call { callee := Callee.value (Operand.func 21), args := #[Operand.tmp 112], argTypes := #[65] }, type := 3, pos := "law.go:159", after := #[{ on := 16, ground := Ground.data }, { on := 15, ground := Ground.chain }, { on := 13, ground := Ground.guard }], guard := some (13, false) }) rfl (fun K hK => ?_) AllReadyH.nil
              go_simp
              go_at_call 21
              refine (len_c _ _ _ _).mono ?_
              rintro e v68 ⟨rfl, hb⟩
              replace A := Lib.hid (A.out.below (hb))
              replace QQ := Lib.hid (QQ.out.below (hb))
              replace B18 := Lib.hid (B18.out.below (hb))
              replace QK := Lib.hid (QK.out.below (hb))
              replace B20 := Lib.hid (B20.out.below (hb))
              clear hb
              go_simp
              refine hK.out _ _ ?_ (fun hHeld => ?_)
              · exact ⟨(B18.out.cell 0), (B20.out.cell 0), (A.out.x3.cell 2)⟩
              clear hK K
              (try simp only [Act.put])
              (try simp only [List.setIfInBounds_toArray])
              (try simp only [List.set_cons_succ])
              (try simp only [List.set_cons_zero])
              refine wpAnyH_take (i := 18) (oi := { dst := some 114, op := Op.binOp BinOp.gtr 3 (Operand.tmp 111) (Operand.tmp 113) 3, type := 4, pos := "law.go:159", after := #[{ on := 15, ground := Ground.data }, { on := 17, ground := Ground.data }, { on := 13, ground := Ground.guard }], guard := some (13, false) }) (v := ?d69_13xv18) rfl (by kernel_rfl) (by kernel_rfl) (by kernel_rfl) (fun _ _ _ h => h) (Or.inl ⟨by rfl, ?d69_13xy18⟩) (by assumption) ?d69_13xr18
              case d69_13xy18 => (intro w hSw; (try dsimp only at hSw); go_simp; try with_reducible rfl)
              (try simp only [Act.put])
              (try simp only [List.setIfInBounds_toArray])
              (try simp only [List.set_cons_succ])
              (try simp only [List.set_cons_zero])
              refine wpAnyH_take (i := 19) (oi := { dst := some 115, op := Op.move (Operand.tmp 114), type := 4, pos := "law.go:159", after := #[{ on := 18, ground := Ground.data }, { on := 17, ground := Ground.chain }, { on := 13, ground := Ground.guard }], guard := some (13, false) }) (v := ?d69_14xv19) rfl (by kernel_rfl) (by kernel_rfl) (by kernel_rfl) (fun _ _ _ h => h) (Or.inl ⟨by rfl, ?d69_14xy19⟩) (by assumption) ?d69_14xr19
              case d69_14xy19 => (intro w hSw; (try dsimp only at hSw); go_simp; try with_reducible rfl)
              (try simp only [Act.put])
              (try simp only [List.setIfInBounds_toArray])
              (try simp only [List.set_cons_succ])
              (try simp only [List.set_cons_zero])
              refine wpAnyH_take (i := 20) (oi := { dst := some 116, op := Op.fieldAddr 49 (Operand.tmp 3) 1, type := 0, pos := "law.go:159", after := #[{ on := 19, ground := Ground.guard }], guard := some (19, true) }) (v := ?d69_15xv20) rfl (by kernel_rfl) (by kernel_rfl) (by kernel_rfl) (fun _ _ _ h => h) (Or.inl ⟨by rfl, ?d69_15xy20⟩) (by assumption) ?d69_15xr20
              case d69_15xy20 => (intro w hSw; (try dsimp only at hSw); go_simp; try with_reducible rfl)
              (try simp only [Act.put])
              (try simp only [List.setIfInBounds_toArray])
              (try simp only [List.set_cons_succ])
              (try simp only [List.set_cons_zero])
              refine wpAnyH_take (i := 21) (oi := { dst := some 117, op := Op.fieldAddr 47 (Operand.tmp 116) 1, type := 0, pos := "law.go:159", after := #[{ on := 20, ground := Ground.data }, { on := 19, ground := Ground.guard }], guard := some (19, true) }) (v := ?d69_16xv21) rfl (by kernel_rfl) (by kernel_rfl) (by kernel_rfl) (fun _ _ _ h => h) (Or.inl ⟨by rfl, ?d69_16xy21⟩) (by assumption) ?d69_16xr21
              case d69_16xy21 => (intro w hSw; (try dsimp only at hSw); go_simp; try with_reducible rfl)
              (try simp only [Act.put])
              (try simp only [List.setIfInBounds_toArray])
              (try simp only [List.set_cons_succ])
              (try simp only [List.set_cons_zero])
              refine wpAnyH_take (i := 22) (oi := { dst := some 118, op := Op.load 42 (Operand.tmp 117), type := 42, pos := "law.go:159", after := #[{ on := 21, ground := Ground.data }, { on := 19, ground := Ground.guard }], guard := some (19, true) }) (v := ?d69_17xv22) rfl (by kernel_rfl) (by kernel_rfl) (by kernel_rfl) (fun _ _ _ h => h) (Or.inl ⟨by rfl, ?d69_17xy22⟩) (by assumption) ?d69_17xr22
              case d69_17xy22 => (intro w hSw; (try dsimp only at hSw); go_simp; try with_reducible rfl)
              (try simp only [Act.put])
              (try simp only [List.setIfInBounds_toArray])
              (try simp only [List.set_cons_succ])
              (try simp only [List.set_cons_zero])
              refine wpAnyH_take (i := 23) (oi := { dst := some 119, op := Op.move (Operand.tmp 14), type := 42, pos := "law.go:159", after := #[{ on := 19, ground := Ground.guard }], guard := some (19, true) }) (v := ?d69_18xv23) rfl (by kernel_rfl) (by kernel_rfl) (by kernel_rfl) (fun _ _ _ h => h) (Or.inl ⟨by rfl, ?d69_18xy23⟩) (by assumption) ?d69_18xr23
              case d69_18xy23 => (intro w hSw; (try dsimp only at hSw); go_simp; try with_reducible rfl)
              (try simp only [Act.put])
              (try simp only [List.setIfInBounds_toArray])
              (try simp only [List.set_cons_succ])
              (try simp only [List.set_cons_zero])
              refine wpAnyH_take (i := 24) (oi := { dst := some 120, op := Op.binOp BinOp.neq 42 (Operand.tmp 118) (Operand.tmp 119) 42, type := 4, pos := "law.go:159", after := #[{ on := 22, ground := Ground.data }, { on := 23, ground := Ground.data }, { on := 19, ground := Ground.guard }], guard := some (19, true) }) (v := ?d69_19xv24) rfl (by kernel_rfl) (by kernel_rfl) (by kernel_rfl) (fun _ _ _ h => h) (Or.inl ⟨by rfl, ?d69_19xy24⟩) (by assumption) ?d69_19xr24
              case d69_19xy24 => (intro w hSw; (try dsimp only at hSw); go_simp; try with_reducible rfl)
              (try simp only [Act.put])
              (try simp only [List.setIfInBounds_toArray])
              (try simp only [List.set_cons_succ])
              (try simp only [List.set_cons_zero])
              refine wpAnyH_take (i := 25) (oi := { dst := some 121, op := Op.pick (Operand.tmp 115) (Operand.tmp 120) (Operand.const (Value.bool false)), type := 4, pos := "law.go:159", after := #[{ on := 19, ground := Ground.data }, { on := 24, ground := Ground.data }, { on := 13, ground := Ground.guard }], guard := some (13, false) }) (v := ?d69_20xv25) rfl (by kernel_rfl) (by kernel_rfl) (by kernel_rfl) (fun _ _ _ h => h) (Or.inl ⟨by rfl, ?d69_20xy25⟩) (by assumption) ?d69_20xr25
              case d69_20xy25 => (intro w hSw; (try dsimp only at hSw); go_simp; try with_reducible rfl)
              (try simp only [Act.put])
              (try simp only [List.setIfInBounds_toArray])
              (try simp only [List.set_cons_succ])
              (try simp only [List.set_cons_zero])
              refine wpAnyH_take (i := 26) (oi := { dst := some 122, op := Op.pick (Operand.tmp 109) (Operand.const (Value.bool true)) (Operand.tmp 121), type := 4, pos := "law.go:159", after := #[{ on := 13, ground := Ground.data }, { on := 25, ground := Ground.data }], guard := none }) (v := ?d69_21xv26) rfl (by kernel_rfl) (by kernel_rfl) (by kernel_rfl) (fun _ _ _ h => h) (Or.inl ⟨by rfl, ?d69_21xy26⟩) (by assumption) ?d69_21xr26
              case d69_21xy26 => (intro w hSw; (try dsimp only at hSw); go_simp; try with_reducible rfl)
              (try simp only [Act.put])
              (try simp only [List.setIfInBounds_toArray])
              (try simp only [List.set_cons_succ])
              (try simp only [List.set_cons_zero])
              refine wpAnyH_done (by kernel_rfl) ?_ _
              go_wp2_with fail
              go_meet
              exact ⟨by simp, A.out, B18.out, B20.out, QQ.out, QK.out⟩
          case rest =>
            obtain ⟨rfl, hA, h18, h20, hqq, hqk⟩ := hcut
            clear A B18 B20 QQ QK hcz
            have A := Lib.hid hA
            have B18 := Lib.hid h18
            have B20 := Lib.hid h20
            have QQ := Lib.hid hqq
            have QK := Lib.hid hqk
            clear hA h18 h20 hqq hqk
            go_wp2_with fail
            go_loopw [22] (fun iv wr => ∃ i : Nat, i ≤ L ∧ iv = .int .i64 (i : Int) ∧ AtC w b3 b5 b7 n1 T u1 u2 v1 v2 M Mk ⟨t, op, at_, oa, ob, oc, na, nb, nc, z⟩ wr ∧ Box wr b18 #[.slice ha L L] 65 ∧ Box wr b20 #[.slice hz LZ LZ] 65 ∧ HW wr (.slice ha L L) q ∧ HW wr (.slice hz LZ LZ) qk) (fun iv _ => L - (intOf iv).toNat)
            case atStart => exact ⟨0, by omega, by simp, A.out, B18.out, B20.out, QQ.out, QK.out⟩
            case round =>
              obtain ⟨i, hi, rfl, hA, h18, h20, hqq, hqk⟩ := hrel
              clear A B18 B20 QQ QK
              have A := Lib.hid hA
              have B18 := Lib.hid h18
              have B20 := Lib.hid h20
              have QQ := Lib.hid hqq
              have QK := Lib.hid hqk
              clear hA h18 h20 hqq hqk
              obtain ⟨m0, -⟩ := B18.out.cells1
              go_wp2_with fail
              clear m0
              refine (len_c _ _ _ _).mono ?_
              rintro e y101 ⟨rfl, hb⟩
              replace A := Lib.hid (A.out.below (hb))
              replace B18 := Lib.hid (B18.out.below (hb))
              replace B20 := Lib.hid (B20.out.below (hb))
              replace QQ := Lib.hid (QQ.out.below (hb))
              replace QK := Lib.hid (QK.out.below (hb))
              clear hb
              by_cases hil : i < L
              · skip
                obtain ⟨xp, hx⟩ := q_msg HQ.out (i := i) (by rw [HQL.out]; exact hil)
                obtain ⟨xq, hx2⟩ := q_msg HQK.out (i := i) (by rw [HQKL.out]; have := HC.out.h p; rcases this with e | ⟨-, gg, e⟩ <;> (have := HLZ.out; rw [e] at this; first | (rw [HL.out] at this; omega) | (simp [HL.out] at this; omega)))
                have hms : (Mk.hist p).getD i zeroMsg = (M.hist p).getD i zeroMsg := HMS.out i hil
                rw [hms] at hx2
                clear hms
                generalize (M.hist p).getD i zeroMsg = xm at *
                obtain ⟨xma, xmb, xmc, xmd, xmv⟩ := xm
                have HX := Lib.hid hx
                have HX2 := Lib.hid hx2
                clear hx hx2
                obtain ⟨m0, -⟩ := B18.out.cells1
                go_wp2_with fail
                clear m0
                refine (hat_in _ _ i _ _ QQ.out HX.out (by rw [HQL.out]; omega)).mono ?_
                rintro e y101 ⟨rfl, hb⟩
                replace A := Lib.hid (A.out.below (hb))
                replace B18 := Lib.hid (B18.out.below (hb))
                replace B20 := Lib.hid (B20.out.below (hb))
                replace QQ := Lib.hid (QQ.out.below (hb))
                replace QK := Lib.hid (QK.out.below (hb))
                clear hb
                unfold msgV
                simp only
                go_upto_region 26 with fail
                replace A := Lib.hid (A.out.below (below_new y101 (.cells #[.int .i64 xma, .int .u32 xmb, .int .u32 xmc, .int .i64 xmd, .map xp] 70)))
                replace B18 := Lib.hid (B18.out.below (below_new y101 (.cells #[.int .i64 xma, .int .u32 xmb, .int .u32 xmc, .int .i64 xmd, .map xp] 70)))
                replace B20 := Lib.hid (B20.out.below (below_new y101 (.cells #[.int .i64 xma, .int .u32 xmb, .int .u32 xmc, .int .i64 xmd, .map xp] 70)))
                replace QQ := Lib.hid (QQ.out.below (below_new y101 (.cells #[.int .i64 xma, .int .u32 xmb, .int .u32 xmc, .int .i64 xmd, .map xp] 70)))
                replace QK := Lib.hid (QK.out.below (below_new y101 (.cells #[.int .i64 xma, .int .u32 xmb, .int .u32 xmc, .int .i64 xmd, .map xp] 70)))
                have B23 := Lib.hid (Box.new y101 #[.int .i64 xma, .int .u32 xmb, .int .u32 xmc, .int .i64 xmd, .map xp] 70 rfl)
                generalize World.alloc y101 (.cells #[.int .i64 xma, .int .u32 xmb, .int .u32 xmc, .int .i64 xmd, .map xp] 70) = y102 at *
                generalize World.heap y101 = hp_b23 at *
                generalize hp_b23.size = b23 at *
                obtain ⟨m0, -⟩ := B20.out.cells1
                go_wp2_with fail
                clear m0
                refine (hat_in _ _ i _ _ QK.out HX2.out (by rw [HQKL.out]; omega)).mono ?_
                rintro e y103 ⟨rfl, hb⟩
                replace A := Lib.hid (A.out.below (hb))
                replace B18 := Lib.hid (B18.out.below (hb))
                replace B20 := Lib.hid (B20.out.below (hb))
                replace QQ := Lib.hid (QQ.out.below (hb))
                replace QK := Lib.hid (QK.out.below (hb))
                replace B23 := Lib.hid (B23.out.below (hb))
                clear hb
                unfold msgV
                simp only
                go_upto_region 27 with fail
                replace A := Lib.hid (A.out.below (below_new y103 (.cells #[.int .i64 xma, .int .u32 xmb, .int .u32 xmc, .int .i64 xmd, .map xq] 70)))
                replace B18 := Lib.hid (B18.out.below (below_new y103 (.cells #[.int .i64 xma, .int .u32 xmb, .int .u32 xmc, .int .i64 xmd, .map xq] 70)))
                replace B20 := Lib.hid (B20.out.below (below_new y103 (.cells #[.int .i64 xma, .int .u32 xmb, .int .u32 xmc, .int .i64 xmd, .map xq] 70)))
                replace QQ := Lib.hid (QQ.out.below (below_new y103 (.cells #[.int .i64 xma, .int .u32 xmb, .int .u32 xmc, .int .i64 xmd, .map xq] 70)))
                replace QK := Lib.hid (QK.out.below (below_new y103 (.cells #[.int .i64 xma, .int .u32 xmb, .int .u32 xmc, .int .i64 xmd, .map xq] 70)))
                replace B23 := Lib.hid (B23.out.below (below_new y103 (.cells #[.int .i64 xma, .int .u32 xmb, .int .u32 xmc, .int .i64 xmd, .map xq] 70)))
                have B25 := Lib.hid (Box.new y103 #[.int .i64 xma, .int .u32 xmb, .int .u32 xmc, .int .i64 xmd, .map xq] 70 rfl)
                generalize World.alloc y103 (.cells #[.int .i64 xma, .int .u32 xmb, .int .u32 xmc, .int .i64 xmd, .map xq] 70) = y104 at *
                generalize World.heap y103 = hp_b25 at *
                generalize hp_b25.size = b25 at *
                obtain ⟨⟨i0, i1, i2, i3, i4⟩, -⟩ := B23.out.cells5
                obtain ⟨⟨j0, j1, j2, j3, j4⟩, -⟩ := B25.out.cells5
                go_wp2
                go_roundw
                case rel => exact ⟨i + 1, by omega, by go_num, A.out, B18.out, B20.out, QQ.out, QK.out⟩
                case measure => simp [intOf]; omega
              · skip
                go_wp2
                go_roundw
                case rel => exact ⟨p + 1, by omega, by go_num, A.out⟩
                case measure => simp [intOf]; omega
    · skip
      have F9 := A.out.g
      go_wp2
      go_ret
      exact ⟨by simp, F9⟩
end Go.Proofs.Ytbaljoehgdhhhaa
