/- The contracts of Swap, where the thread and the address exist. -/
import Derived.Test.YtbaljoehgdhhhaaSpec
import Derived.Laws.StructEq
namespace Go.Proofs.Ytbaljoehgdhhhaa
open Go.RowKit Go.Shelf Go.Maps
set_option maxRecDepth 100000 in
theorem equalW (a b c a' b' c' : Int) (w : World) : (Op.equalIn 10000 45 (.agg #[.int .i64 a, .int .u32 b, .int .u32 c]) (.agg #[.int .i64 a', .int .u32 b', .int .u32 c'])).run Try.prog w = .ok (a == a' && (b == b' && c == c')) w := by
  have u2 := Try.underlying2
  have u22 := Try.underlying43
  have a2 := Try.isAgg2
  have a22 := Try.isAgg43
  have z2 := Try.sizeOf2
  have z22 := Try.sizeOf43
  have hS : Try.prog.underlying 45 = some (.struct (Try.prog.fieldsOf 45)) := by kernel_rfl
  have hp : Try.prog.stoodInHeld 45 = false := by kernel_rfl
  rw [show (10000 : Nat) = 9999 + 1 from rfl, run_equalIn_agg w 9999 45 _ _ hS hp]
  simp only [Program.fieldsOf, Try.underlying45]
  go_simp
  by_cases h1 : a = a' <;> by_cases h2 : b = b' <;> by_cases h3 : c = c' <;> simp [h1, h2, h3]
theorem eqlW (a b c a' b' c' : Int) (w : World) : (binOp .eql 45 (.agg #[.int .i64 a, .int .u32 b, .int .u32 c]) (.agg #[.int .i64 a', .int .u32 b', .int .u32 c'])).run Try.prog w = .ok (.bool (a == a' && (b == b' && c == c'))) w := by
  rw [run_eql_struct, equalW]; rfl
theorem neqW (a b c a' b' c' : Int) (w : World) : (binOp .neq 45 (.agg #[.int .i64 a, .int .u32 b, .int .u32 c]) (.agg #[.int .i64 a', .int .u32 b', .int .u32 c'])).run Try.prog w = .ok (.bool (!(a == a' && (b == b' && c == c')))) w := by
  rw [run_neq_struct, equalW]; rfl

set_option maxRecDepth 100000 in
set_option maxHeartbeats 3200000 in
theorem swap_miss (pv vv : Value) (M : Mem) (N k p : Nat) (oa ob oc ya yb yc : Int) (w : World) (D : Nat → Prop) (h : MD D w pv vv M) (G : M.Good N) (hN : N ≤ 999) (hk : k < M.vs.length) (hpn : p < M.hs.length) (hw : ¬ ((M.msg p ((M.hist p).length - 1)).val = oa ∧ (M.msg p ((M.hist p).length - 1)).ver = ob ∧ (M.msg p ((M.hist p).length - 1)).ref = oc)) :
    Calls Try.prog 28 #[.agg #[pv, vv], .int .i64 ((k : Int) + 1), .int .i64 p, .agg #[.int .i64 oa, .int .u32 ob, .int .u32 oc], .agg #[.int .i64 ya, .int .u32 yb, .int .u32 yc]] w fun e w' => ∃ pv' vv', e = .returned (.tuple #[.agg #[pv', vv'], wordV (M.msg p ((M.hist p).length - 1)), .bool false, .int .i64 0]) ∧ MD (Dn D w) w' pv' vv' (M.readAt k p ((M.hist p).length - 1) true) ∧ Below w.heap.size w w' := by
  have hkP : 0 < M.hs.length := by omega
  have hkV : 0 < M.vs.length := by omega
  have hvl := G.nv
  have hpl := G.np
  obtain ⟨bP, bV, P, V, rfl, rfl, m1, m2, h0, hD⟩ := MO.ofD h hkP hkV
  have HD := Lib.hid hD
  clear hD
  obtain ⟨ha, q, vp, hp, hqm, hql, hv⟩ := h0.pick m1 m2 hk hpn
  have hgh := G.hist hpn
  have e1 : P.length = M.hs.length := by rw [← m1, List.length_map]
  have e2 : V.length = M.vs.length := by rw [← m2, List.length_map]
  have hvo := (h0.atV hv).1
  obtain ⟨i, hi⟩ : ∃ i, (M.hist p).length - 1 = i := ⟨_, rfl⟩
  have hiq : i < q.length := by rw [hql]; omega
  have hii : (i : Int) = (q.length : Int) - 1 := by rw [hql]; omega
  obtain ⟨xp, hx⟩ := q_msg hqm hiq
  rw [hi] at hw ⊢
  have hmsg : (M.hist p).getD i zeroMsg = M.msg p i := rfl
  rw [hmsg] at hx
  have HRES : Hid (M.readAt k p i true = ⟨M.hs, M.vs.set k (joinL (withL (M.view k) p i) (M.msg p i).view)⟩) := Lib.hid (by unfold Mem.readAt; simp)
  rw [show wordV (M.msg p i) = .agg #[.int .i64 (M.msg p i).val, .int .u32 (M.msg p i).ver, .int .u32 (M.msg p i).ref] from rfl]
  obtain ⟨⟨xa, xb, xc, xd, xm⟩, hxe⟩ : ∃ x, M.msg p i = x := ⟨_, rfl⟩
  rw [hxe] at hx hw HRES ⊢
  simp only at HRES hw ⊢
  have HX := Lib.hid hx
  clear hi hx hmsg hxe
  have hne : (!(xa == oa && (xb == ob && xc == oc))) = true := by
    simp only [Bool.not_eq_true', Bool.and_eq_false_iff, beq_eq_false_iff_ne]
    by_cases h1 : xa = oa
    · by_cases h2 : xb = ob
      · exact .inr (.inr (fun h3 => hw ⟨h1, h2, h3⟩))
      · exact .inr (.inl h2)
    · exact .inl h1
  have HM1 := Lib.hid m1
  have HM2 := Lib.hid m2
  have HP := Lib.hid hp
  have HV := Lib.hid hv
  have HQM := Lib.hid hqm
  have HQL := Lib.hid hql
  have hB := h0.le
  obtain ⟨np, hnp⟩ : ∃ n, M.hs.length = n := ⟨_, rfl⟩
  obtain ⟨nv, hnv⟩ : ∃ n, M.vs.length = n := ⟨_, rfl⟩
  have HNP := Lib.hid hnp
  have HNV := Lib.hid hnv
  rw [hnp] at e1 hpn hpl
  rw [hnv] at e2 hk hvl
  rw [hnp, hnv]
  have E1 := Lib.hid e1
  have E2 := Lib.hid e2
  have HVO := Lib.hid hvo
  clear h m1 m2 hp hv hqm hnp hnv hkP hkV e1 e2 hvo
  have hchk : errOf np nv ((k : Int) + 1) p = 0 := by unfold errOf; rw [if_neg (by omega), if_neg (by omega)]
  obtain ⟨hn, hhn⟩ : ∃ n, q.length = n := ⟨_, rfl⟩
  rw [hhn] at HP hql
  have HHN := Lib.hid hhn
  clear hhn
  rw [HHN.out] at hii hiq
  have HII := Lib.hid hii
  have qN := neqW
  clear hii
  have BM := Lib.hid (Box.alloc (Box.alloc (Box.alloc (Box.alloc (Box.new w #[.slice (some ⟨bP, 0, none⟩) np np, .slice (some ⟨bV, 0, none⟩) nv nv] 31 (n := w.heap.size) (by simp)) (.cells #[.int .i64 oa, .int .u32 ob, .int .u32 oc] 45)) (.cells #[.int .i64 ya, .int .u32 yb, .int .u32 yc] 45)) (.cells #[.slice none 0 0, .slice none 0 0] 31)) (.cells #[.int .i64 0, .int .u32 0, .int .u32 0] 45))
  have BO := Lib.hid (Box.alloc (Box.alloc (Box.alloc (Box.new (w.alloc (.cells #[.slice (some ⟨bP, 0, none⟩) np np, .slice (some ⟨bV, 0, none⟩) nv nv] 31)) #[.int .i64 oa, .int .u32 ob, .int .u32 oc] 45 (n := w.heap.size + 1) (by simp)) (.cells #[.int .i64 ya, .int .u32 yb, .int .u32 yc] 45)) (.cells #[.slice none 0 0, .slice none 0 0] 31)) (.cells #[.int .i64 0, .int .u32 0, .int .u32 0] 45))
  have BY := Lib.hid (Box.alloc (Box.alloc (Box.new ((w.alloc (.cells #[.slice (some ⟨bP, 0, none⟩) np np, .slice (some ⟨bV, 0, none⟩) nv nv] 31)).alloc (.cells #[.int .i64 oa, .int .u32 ob, .int .u32 oc] 45)) #[.int .i64 ya, .int .u32 yb, .int .u32 yc] 45 (n := w.heap.size + 1 + 1) (by simp)) (.cells #[.slice none 0 0, .slice none 0 0] 31)) (.cells #[.int .i64 0, .int .u32 0, .int .u32 0] 45))
  have R1 := Lib.hid (Box.alloc (Box.new (((w.alloc (.cells #[.slice (some ⟨bP, 0, none⟩) np np, .slice (some ⟨bV, 0, none⟩) nv nv] 31)).alloc (.cells #[.int .i64 oa, .int .u32 ob, .int .u32 oc] 45)).alloc (.cells #[.int .i64 ya, .int .u32 yb, .int .u32 yc] 45)) #[.slice none 0 0, .slice none 0 0] 31 (n := w.heap.size + 1 + 1 + 1) (by simp)) (.cells #[.int .i64 0, .int .u32 0, .int .u32 0] 45))
  have R2 := Lib.hid (Box.new ((((w.alloc (.cells #[.slice (some ⟨bP, 0, none⟩) np np, .slice (some ⟨bV, 0, none⟩) nv nv] 31)).alloc (.cells #[.int .i64 oa, .int .u32 ob, .int .u32 oc] 45)).alloc (.cells #[.int .i64 ya, .int .u32 yb, .int .u32 yc] 45)).alloc (.cells #[.slice none 0 0, .slice none 0 0] 31)) #[.int .i64 0, .int .u32 0, .int .u32 0] 45 (n := w.heap.size + 1 + 1 + 1 + 1) (by simp))
  have BB := Lib.hid ((((((Below.refl w.heap.size w).alloc (by simp <;> omega) (.cells #[.slice (some ⟨bP, 0, none⟩) np np, .slice (some ⟨bV, 0, none⟩) nv nv] 31)).alloc (by simp <;> omega) (.cells #[.int .i64 oa, .int .u32 ob, .int .u32 oc] 45)).alloc (by simp <;> omega) (.cells #[.int .i64 ya, .int .u32 yb, .int .u32 yc] 45)).alloc (by simp <;> omega) (.cells #[.slice none 0 0, .slice none 0 0] 31)).alloc (by simp <;> omega) (.cells #[.int .i64 0, .int .u32 0, .int .u32 0] 45))
  have MM := Lib.hid (h0.below ((((((Below.refl w.heap.size w).alloc (by simp <;> omega) (.cells #[.slice (some ⟨bP, 0, none⟩) np np, .slice (some ⟨bV, 0, none⟩) nv nv] 31)).alloc (by simp <;> omega) (.cells #[.int .i64 oa, .int .u32 ob, .int .u32 oc] 45)).alloc (by simp <;> omega) (.cells #[.int .i64 ya, .int .u32 yb, .int .u32 yc] 45)).alloc (by simp <;> omega) (.cells #[.slice none 0 0, .slice none 0 0] 31)).alloc (by simp <;> omega) (.cells #[.int .i64 0, .int .u32 0, .int .u32 0] 45)))
  clear h0
  go_enter Try.func28, Try.ntmps28
  go_wp2_with fail
  generalize (((((w.alloc (.cells #[.slice (some ⟨bP, 0, none⟩) np np, .slice (some ⟨bV, 0, none⟩) nv nv] 31)).alloc (.cells #[.int .i64 oa, .int .u32 ob, .int .u32 oc] 45)).alloc (.cells #[.int .i64 ya, .int .u32 yb, .int .u32 yc] 45)).alloc (.cells #[.slice none 0 0, .slice none 0 0] 31)).alloc (.cells #[.int .i64 0, .int .u32 0, .int .u32 0] 45)) = W0 at *
  obtain ⟨br2, hbr2⟩ : ∃ b, w.heap.size + 1 + 1 + 1 + 1 = b := ⟨_, rfl⟩
  obtain ⟨br1, hbr1⟩ : ∃ b, w.heap.size + 1 + 1 + 1 = b := ⟨_, rfl⟩
  obtain ⟨byy, hbyy⟩ : ∃ b, w.heap.size + 1 + 1 = b := ⟨_, rfl⟩
  obtain ⟨bo, hbo⟩ : ∃ b, w.heap.size + 1 = b := ⟨_, rfl⟩
  obtain ⟨bm, hbm⟩ : ∃ b, w.heap.size = b := ⟨_, rfl⟩
  have hbq := hbm
  rw [hbr2] at R2 ⊢
  rw [hbr1] at R1 hbr2 ⊢
  rw [hbyy] at BY hbr1 ⊢
  rw [hbo] at BO hbyy ⊢
  rw [hbm] at BM hbo ⊢
  refine (check_any _ _ np nv _ _ _ (by omega) (by omega)).mono ?_
  rintro e a0 ⟨rfl, hb⟩
  have BM' := Lib.hid (BM.out.below (hb))
  have BO' := Lib.hid (BO.out.below (hb))
  have BY' := Lib.hid (BY.out.below (hb))
  have R1' := Lib.hid (R1.out.below (hb))
  have R2' := Lib.hid (R2.out.below (hb))
  have MM' := Lib.hid (MM.out.below (hb))
  have BB' := Lib.hid (BB.out.trans ((hb).mono BB.out.size))
  clear BM
  have BM := BM'
  clear BM'
  clear BO
  have BO := BO'
  clear BO'
  clear BY
  have BY := BY'
  clear BY'
  clear R1
  have R1 := R1'
  clear R1'
  clear R2
  have R2 := R2'
  clear R2'
  clear MM
  have MM := MM'
  clear MM'
  clear BB
  have BB := BB'
  clear BB'
  clear hb
  rw [hchk]
  obtain ⟨⟨m0, m1⟩, -⟩ := BM.out.cells2
  go_wp2_with fail
  clear m0 m1
  have hltr1 := R1.out.lt
  have hltr2 := R2.out.lt
  refine (read_new 0 bP bV np nv _ k p i hn P V ha q vp (M.view k) xa xb xc xd xm xp _ MM.out E1.out E2.out hpl hvl HP.out HV.out HHN.out (by omega) HX.out HII.out).mono ?_
  rintro e a1 ⟨bN, vp', rfl, hbN, hr, hpj, hb⟩
  have BM' := Lib.hid (BM.out.below (hb))
  have BO' := Lib.hid (BO.out.below (hb))
  have BY' := Lib.hid (BY.out.below (hb))
  have R1' := Lib.hid (R1.out.below (hb))
  have R2' := Lib.hid (R2.out.below (hb))
  have MM' := Lib.hid (MM.out.below (hb))
  have BB' := Lib.hid (BB.out.trans ((hb).mono BB.out.size))
  clear BM
  have BM := BM'
  clear BM'
  clear BO
  have BO := BO'
  clear BO'
  clear BY
  have BY := BY'
  clear BY'
  clear R1
  have R1 := R1'
  clear R1'
  clear R2
  have R2 := R2'
  clear R2'
  clear MM
  have MM := MM'
  clear MM'
  clear BB
  have BB := BB'
  clear BB'
  clear hb
  have RN := Lib.hid (hr)
  have PJ := Lib.hid (hpj)
  clear hr hpj
  go_upto_region 5 with fail
  have hlt_b14 := BB.out.size
  have hlt_b14_BM := BM.out.lt
  have hlt_b14_BO := BO.out.lt
  have hlt_b14_BY := BY.out.lt
  have hlt_b14_R1 := R1.out.lt
  have hlt_b14_R2 := R2.out.lt
  have BM' := Lib.hid (BM.out.below (below_new a1 (.cells #[.slice (some ⟨bP, 0, none⟩) np np, .slice (some ⟨bN, 0, none⟩) nv nv] 31)))
  have BO' := Lib.hid (BO.out.below (below_new a1 (.cells #[.slice (some ⟨bP, 0, none⟩) np np, .slice (some ⟨bN, 0, none⟩) nv nv] 31)))
  have BY' := Lib.hid (BY.out.below (below_new a1 (.cells #[.slice (some ⟨bP, 0, none⟩) np np, .slice (some ⟨bN, 0, none⟩) nv nv] 31)))
  have R1' := Lib.hid (R1.out.below (below_new a1 (.cells #[.slice (some ⟨bP, 0, none⟩) np np, .slice (some ⟨bN, 0, none⟩) nv nv] 31)))
  have R2' := Lib.hid (R2.out.below (below_new a1 (.cells #[.slice (some ⟨bP, 0, none⟩) np np, .slice (some ⟨bN, 0, none⟩) nv nv] 31)))
  have MM' := Lib.hid (MM.out.below (below_new a1 (.cells #[.slice (some ⟨bP, 0, none⟩) np np, .slice (some ⟨bN, 0, none⟩) nv nv] 31)))
  have RN' := Lib.hid (RN.out.below (below_new a1 (.cells #[.slice (some ⟨bP, 0, none⟩) np np, .slice (some ⟨bN, 0, none⟩) nv nv] 31)))
  have PJ' := Lib.hid (PJ.out.below (below_new a1 (.cells #[.slice (some ⟨bP, 0, none⟩) np np, .slice (some ⟨bN, 0, none⟩) nv nv] 31)))
  have BB' := Lib.hid (BB.out.trans ((below_new a1 (.cells #[.slice (some ⟨bP, 0, none⟩) np np, .slice (some ⟨bN, 0, none⟩) nv nv] 31)).mono BB.out.size))
  clear BM
  have BM := BM'
  clear BM'
  clear BO
  have BO := BO'
  clear BO'
  clear BY
  have BY := BY'
  clear BY'
  clear R1
  have R1 := R1'
  clear R1'
  clear R2
  have R2 := R2'
  clear R2'
  clear MM
  have MM := MM'
  clear MM'
  clear RN
  have RN := RN'
  clear RN'
  clear PJ
  have PJ := PJ'
  clear PJ'
  clear BB
  have BB := BB'
  clear BB'
  have B14 := Lib.hid (Box.new a1 #[.slice (some ⟨bP, 0, none⟩) np np, .slice (some ⟨bN, 0, none⟩) nv nv] 31 rfl)
  have hsz_b14 : (World.alloc a1 (.cells #[.slice (some ⟨bP, 0, none⟩) np np, .slice (some ⟨bN, 0, none⟩) nv nv] 31)).heap.size = (World.heap a1).size + 1 := by simp
  generalize World.alloc a1 (.cells #[.slice (some ⟨bP, 0, none⟩) np np, .slice (some ⟨bN, 0, none⟩) nv nv] 31) = a2 at *
  generalize World.heap a1 = hp_b14 at *
  generalize hp_b14.size = b14 at *
  have hlt_b15 := BB.out.size
  have BM' := Lib.hid (BM.out.below (below_new a2 (.cells #[.int .i64 xa, .int .u32 xb, .int .u32 xc] 45)))
  have BO' := Lib.hid (BO.out.below (below_new a2 (.cells #[.int .i64 xa, .int .u32 xb, .int .u32 xc] 45)))
  have BY' := Lib.hid (BY.out.below (below_new a2 (.cells #[.int .i64 xa, .int .u32 xb, .int .u32 xc] 45)))
  have R1' := Lib.hid (R1.out.below (below_new a2 (.cells #[.int .i64 xa, .int .u32 xb, .int .u32 xc] 45)))
  have R2' := Lib.hid (R2.out.below (below_new a2 (.cells #[.int .i64 xa, .int .u32 xb, .int .u32 xc] 45)))
  have MM' := Lib.hid (MM.out.below (below_new a2 (.cells #[.int .i64 xa, .int .u32 xb, .int .u32 xc] 45)))
  have RN' := Lib.hid (RN.out.below (below_new a2 (.cells #[.int .i64 xa, .int .u32 xb, .int .u32 xc] 45)))
  have PJ' := Lib.hid (PJ.out.below (below_new a2 (.cells #[.int .i64 xa, .int .u32 xb, .int .u32 xc] 45)))
  have B14' := Lib.hid (B14.out.below (below_new a2 (.cells #[.int .i64 xa, .int .u32 xb, .int .u32 xc] 45)))
  have BB' := Lib.hid (BB.out.trans ((below_new a2 (.cells #[.int .i64 xa, .int .u32 xb, .int .u32 xc] 45)).mono BB.out.size))
  clear BM
  have BM := BM'
  clear BM'
  clear BO
  have BO := BO'
  clear BO'
  clear BY
  have BY := BY'
  clear BY'
  clear R1
  have R1 := R1'
  clear R1'
  clear R2
  have R2 := R2'
  clear R2'
  clear MM
  have MM := MM'
  clear MM'
  clear RN
  have RN := RN'
  clear RN'
  clear PJ
  have PJ := PJ'
  clear PJ'
  clear B14
  have B14 := B14'
  clear B14'
  clear BB
  have BB := BB'
  clear BB'
  have B15 := Lib.hid (Box.new a2 #[.int .i64 xa, .int .u32 xb, .int .u32 xc] 45 (n := b14 + 1) hsz_b14.symm)
  have hsz_b15 : (World.alloc a2 (.cells #[.int .i64 xa, .int .u32 xb, .int .u32 xc] 45)).heap.size = b14 + 1 + 1 := by simp [hsz_b14]
  rw [hsz_b14] at hlt_b15
  generalize World.alloc a2 (.cells #[.int .i64 xa, .int .u32 xb, .int .u32 xc] 45) = a3 at *
  obtain ⟨b15, hq_b15⟩ : ∃ b, b14 + 1 = b := ⟨_, rfl⟩
  rw [hq_b15] at B15 hsz_b15 ⊢
  obtain ⟨⟨m0, m1, m2⟩, -⟩ := BO.out.cells3
  obtain ⟨⟨k0, k1, k2⟩, -⟩ := B15.out.cells3
  go_upto_region 6 with fail
  clear m0 m1 m2 k0 k1 k2
  have BM' := Lib.hid (BM.out.below ((Below.refl _ _).drew))
  have BO' := Lib.hid (BO.out.below ((Below.refl _ _).drew))
  have BY' := Lib.hid (BY.out.below ((Below.refl _ _).drew))
  have R1' := Lib.hid (R1.out.below ((Below.refl _ _).drew))
  have R2' := Lib.hid (R2.out.below ((Below.refl _ _).drew))
  have MM' := Lib.hid (MM.out.below ((Below.refl _ _).drew))
  have RN' := Lib.hid (RN.out.below ((Below.refl _ _).drew))
  have PJ' := Lib.hid (PJ.out.below ((Below.refl _ _).drew))
  have B14' := Lib.hid (B14.out.below ((Below.refl _ _).drew))
  have B15' := Lib.hid (B15.out.below ((Below.refl _ _).drew))
  have BB' := Lib.hid (BB.out.trans (((Below.refl _ _).drew).mono BB.out.size))
  clear BM
  have BM := BM'
  clear BM'
  clear BO
  have BO := BO'
  clear BO'
  clear BY
  have BY := BY'
  clear BY'
  clear R1
  have R1 := R1'
  clear R1'
  clear R2
  have R2 := R2'
  clear R2'
  clear MM
  have MM := MM'
  clear MM'
  clear RN
  have RN := RN'
  clear RN'
  clear PJ
  have PJ := PJ'
  clear PJ'
  clear B14
  have B14 := B14'
  clear B14'
  clear B15
  have B15 := B15'
  clear B15'
  clear BB
  have BB := BB'
  clear BB'
  refine wp_region_held_drew (S := fun w' => w'.cell? ⟨b14, 0, none⟩ = some (.slice (some ⟨bP, 0, none⟩) np np) ∧ w'.cell? ⟨b14, 1, none⟩ = some (.slice (some ⟨bN, 0, none⟩) nv nv) ∧ w'.cell? ⟨b15, 0, none⟩ = some (.int .i64 xa) ∧ w'.cell? ⟨b15, 1, none⟩ = some (.int .u32 xb) ∧ w'.cell? ⟨b15, 2, none⟩ = some (.int .u32 xc)) (by kernel_rfl) ⟨B14.out.cells2.1.1, B14.out.cells2.1.2, B15.out.cell 0, B15.out.cell 1, B15.out.cell 2⟩ (fun hHeld => ?_)
  generalize World.drew a3 = V0 at *
  refine wpAnyH_take (i := 0) (oi := { dst := some 38, op := Op.load 31 (Operand.tmp 15), type := 31, pos := "memory.go:68", after := #[], guard := none }) (v := ?d1_1xv0) rfl (by kernel_rfl) (by kernel_rfl) (by kernel_rfl) (fun _ _ _ h => h) (Or.inl ⟨by rfl, ?d1_1xy0⟩) (by assumption) ?d1_1xr0
  case d1_1xy0 => (intro w hSw; (try dsimp only at hSw); go_simp; try with_reducible rfl)
  (try simp only [Act.put])
  (try simp only [List.setIfInBounds_toArray])
  (try simp only [List.set_cons_succ])
  (try simp only [List.set_cons_zero])
  refine wpAnyH_take (i := 1) (oi := { dst := some 39, op := Op.load 45 (Operand.tmp 16), type := 45, pos := "memory.go:68", after := #[{ on := 2, ground := Ground.gcOnly Departure.lateStores }], guard := none }) (v := ?d1_2xv1) rfl (by kernel_rfl) (by kernel_rfl) (by kernel_rfl) (fun _ _ _ h => h) (Or.inl ⟨by rfl, ?d1_2xy1⟩) (by assumption) ?d1_2xr1
  case d1_2xy1 => (intro w hSw; (try dsimp only at hSw); go_simp; try with_reducible rfl)
  (try simp only [Act.put])
  (try simp only [List.setIfInBounds_toArray])
  (try simp only [List.set_cons_succ])
  (try simp only [List.set_cons_zero])
  refine wpAnyH_ready (rs := [2]) (by kernel_rfl) (by simp) ?_
  refine AllReadyH.cons (o := { dst := none, op := Op.store 31 (Operand.tmp 10) (Operand.tmp 38), type := 0, pos := "memory.go:68", after := #[{ on := 0, ground := Ground.data }, { on := 0, ground := Ground.phase }, { on := 1, ground := Ground.textOnly Departure.lateStores }], guard := none }) rfl (fun K hK => ?_) AllReadyH.nil
  obtain ⟨⟨m0, m1⟩, g0, g1⟩ := R1.out.cells2
  go_simp
  clear m0 g0 m1 g1
  have BM' := Lib.hid (BM.out.only (by omega) (((Only.refl br1 V0).set 0 (.slice (some ⟨bP, 0, none⟩) np np)).set 1 (.slice (some ⟨bN, 0, none⟩) nv nv)))
  have BO' := Lib.hid (BO.out.only (by omega) (((Only.refl br1 V0).set 0 (.slice (some ⟨bP, 0, none⟩) np np)).set 1 (.slice (some ⟨bN, 0, none⟩) nv nv)))
  have BY' := Lib.hid (BY.out.only (by omega) (((Only.refl br1 V0).set 0 (.slice (some ⟨bP, 0, none⟩) np np)).set 1 (.slice (some ⟨bN, 0, none⟩) nv nv)))
  have R1' := Lib.hid (((R1.out).set 0 (.slice (some ⟨bP, 0, none⟩) np np)).set 1 (.slice (some ⟨bN, 0, none⟩) nv nv))
  have R2' := Lib.hid (R2.out.only (by omega) (((Only.refl br1 V0).set 0 (.slice (some ⟨bP, 0, none⟩) np np)).set 1 (.slice (some ⟨bN, 0, none⟩) nv nv)))
  have MM' := Lib.hid (MM.out.only R1.out (by omega) (((Only.refl br1 V0).set 0 (.slice (some ⟨bP, 0, none⟩) np np)).set 1 (.slice (some ⟨bN, 0, none⟩) nv nv)))
  have RN' := Lib.hid (RN.out.only (by omega) (((Only.refl br1 V0).set 0 (.slice (some ⟨bP, 0, none⟩) np np)).set 1 (.slice (some ⟨bN, 0, none⟩) nv nv)))
  have PJ' := Lib.hid (PJ.out.only R1.out (((Only.refl br1 V0).set 0 (.slice (some ⟨bP, 0, none⟩) np np)).set 1 (.slice (some ⟨bN, 0, none⟩) nv nv)))
  have B14' := Lib.hid (B14.out.only (by omega) (((Only.refl br1 V0).set 0 (.slice (some ⟨bP, 0, none⟩) np np)).set 1 (.slice (some ⟨bN, 0, none⟩) nv nv)))
  have B15' := Lib.hid (B15.out.only (by omega) (((Only.refl br1 V0).set 0 (.slice (some ⟨bP, 0, none⟩) np np)).set 1 (.slice (some ⟨bN, 0, none⟩) nv nv)))
  have BB' := Lib.hid (((BB.out).put br1 (by omega) 0 (.slice (some ⟨bP, 0, none⟩) np np)).put br1 (by omega) 1 (.slice (some ⟨bN, 0, none⟩) nv nv))
  clear BM
  have BM := BM'
  clear BM'
  clear BO
  have BO := BO'
  clear BO'
  clear BY
  have BY := BY'
  clear BY'
  clear R1
  have R1 := R1'
  clear R1'
  clear R2
  have R2 := R2'
  clear R2'
  clear MM
  have MM := MM'
  clear MM'
  clear RN
  have RN := RN'
  clear RN'
  clear PJ
  have PJ := PJ'
  clear PJ'
  clear B14
  have B14 := B14'
  clear B14'
  clear B15
  have B15 := B15'
  clear B15'
  clear BB
  have BB := BB'
  clear BB'
  generalize (World.setCell (World.setCell V0 ⟨br1, 0, none⟩ (.slice (some ⟨bP, 0, none⟩) np np)) ⟨br1, 1, none⟩ (.slice (some ⟨bN, 0, none⟩) nv nv)) = v1 at *
  refine hK.out _ _ ?_ (fun hHeld => ?_)
  · exact ⟨B14.out.cells2.1.1, B14.out.cells2.1.2, B15.out.cell 0, B15.out.cell 1, B15.out.cell 2⟩
  clear hK K
  (try simp only [Act.put])
  (try simp only [List.setIfInBounds_toArray])
  (try simp only [List.set_cons_succ])
  (try simp only [List.set_cons_zero])
  refine wpAnyH_ready (rs := [3]) (by kernel_rfl) (by simp) ?_
  refine AllReadyH.cons (o := { dst := none, op := Op.store 45 (Operand.tmp 11) (Operand.tmp 39), type := 0, pos := "memory.go:68", after := #[{ on := 1, ground := Ground.data }, { on := 2, ground := Ground.chain }, { on := 0, ground := Ground.phase }, { on := 1, ground := Ground.phase }, { on := 2, ground := Ground.phase }], guard := none }) rfl (fun K hK => ?_) AllReadyH.nil
  obtain ⟨⟨m0, m1, m2⟩, g0, g1, g2⟩ := R2.out.cells3
  go_simp
  clear m0 g0 m1 g1 m2 g2
  have BM' := Lib.hid (BM.out.only (by omega) ((((Only.refl br2 v1).set 0 (.int .i64 xa)).set 1 (.int .u32 xb)).set 2 (.int .u32 xc)))
  have BO' := Lib.hid (BO.out.only (by omega) ((((Only.refl br2 v1).set 0 (.int .i64 xa)).set 1 (.int .u32 xb)).set 2 (.int .u32 xc)))
  have BY' := Lib.hid (BY.out.only (by omega) ((((Only.refl br2 v1).set 0 (.int .i64 xa)).set 1 (.int .u32 xb)).set 2 (.int .u32 xc)))
  have R1' := Lib.hid (R1.out.only (by omega) ((((Only.refl br2 v1).set 0 (.int .i64 xa)).set 1 (.int .u32 xb)).set 2 (.int .u32 xc)))
  have R2' := Lib.hid ((((R2.out).set 0 (.int .i64 xa)).set 1 (.int .u32 xb)).set 2 (.int .u32 xc))
  have MM' := Lib.hid (MM.out.only R2.out (by omega) ((((Only.refl br2 v1).set 0 (.int .i64 xa)).set 1 (.int .u32 xb)).set 2 (.int .u32 xc)))
  have RN' := Lib.hid (RN.out.only (by omega) ((((Only.refl br2 v1).set 0 (.int .i64 xa)).set 1 (.int .u32 xb)).set 2 (.int .u32 xc)))
  have PJ' := Lib.hid (PJ.out.only R2.out ((((Only.refl br2 v1).set 0 (.int .i64 xa)).set 1 (.int .u32 xb)).set 2 (.int .u32 xc)))
  have B14' := Lib.hid (B14.out.only (by omega) ((((Only.refl br2 v1).set 0 (.int .i64 xa)).set 1 (.int .u32 xb)).set 2 (.int .u32 xc)))
  have B15' := Lib.hid (B15.out.only (by omega) ((((Only.refl br2 v1).set 0 (.int .i64 xa)).set 1 (.int .u32 xb)).set 2 (.int .u32 xc)))
  have BB' := Lib.hid ((((BB.out).put br2 (by omega) 0 (.int .i64 xa)).put br2 (by omega) 1 (.int .u32 xb)).put br2 (by omega) 2 (.int .u32 xc))
  clear BM
  have BM := BM'
  clear BM'
  clear BO
  have BO := BO'
  clear BO'
  clear BY
  have BY := BY'
  clear BY'
  clear R1
  have R1 := R1'
  clear R1'
  clear R2
  have R2 := R2'
  clear R2'
  clear MM
  have MM := MM'
  clear MM'
  clear RN
  have RN := RN'
  clear RN'
  clear PJ
  have PJ := PJ'
  clear PJ'
  clear B14
  have B14 := B14'
  clear B14'
  clear B15
  have B15 := B15'
  clear B15'
  clear BB
  have BB := BB'
  clear BB'
  generalize (World.setCell (World.setCell (World.setCell v1 ⟨br2, 0, none⟩ (.int .i64 xa)) ⟨br2, 1, none⟩ (.int .u32 xb)) ⟨br2, 2, none⟩ (.int .u32 xc)) = v2 at *
  refine hK.out _ _ ?_ (fun hHeld => ?_)
  · exact ⟨B14.out.cells2.1.1, B14.out.cells2.1.2, B15.out.cell 0, B15.out.cell 1, B15.out.cell 2⟩
  clear hK K
  (try simp only [Act.put])
  (try simp only [List.setIfInBounds_toArray])
  (try simp only [List.set_cons_succ])
  (try simp only [List.set_cons_zero])
  refine wpAnyH_ready (rs := [4]) (by kernel_rfl) (by simp) ?_
  refine AllReadyH.cons (o := { dst := some 12, op := Op.assign (Operand.const (Value.bool false)), type := 4, pos := "memory.go:68", after := #[{ on := 3, ground := Ground.chain }, { on := 0, ground := Ground.phase }, { on := 1, ground := Ground.phase }, { on := 2, ground := Ground.phase }, { on := 3, ground := Ground.phase }], guard := none }) rfl (fun K hK => ?_) AllReadyH.nil
  go_simp
  refine hK.out _ _ ?_ (fun hHeld => ?_)
  · exact ⟨B14.out.cells2.1.1, B14.out.cells2.1.2, B15.out.cell 0, B15.out.cell 1, B15.out.cell 2⟩
  clear hK K
  (try simp only [Act.put])
  (try simp only [List.setIfInBounds_toArray])
  (try simp only [List.set_cons_succ])
  (try simp only [List.set_cons_zero])
  refine wpAnyH_ready (rs := [5]) (by kernel_rfl) (by simp) ?_
  refine AllReadyH.cons (o := { dst := some 13, op := Op.assign (Operand.const (Value.int IntKind.i64 0)), type := 32, pos := "memory.go:68", after := #[{ on := 4, ground := Ground.chain }, { on := 0, ground := Ground.phase }, { on := 1, ground := Ground.phase }, { on := 2, ground := Ground.phase }, { on := 3, ground := Ground.phase }, { on := 4, ground := Ground.phase }], guard := none }) rfl (fun K hK => ?_) AllReadyH.nil
  go_simp
  refine hK.out _ _ ?_ (fun hHeld => ?_)
  · exact ⟨B14.out.cells2.1.1, B14.out.cells2.1.2, B15.out.cell 0, B15.out.cell 1, B15.out.cell 2⟩
  clear hK K
  (try simp only [Act.put])
  (try simp only [List.setIfInBounds_toArray])
  (try simp only [List.set_cons_succ])
  (try simp only [List.set_cons_zero])
  refine wpAnyH_done (by kernel_rfl) ?_ _
  obtain ⟨⟨m0, m1⟩, -⟩ := R1.out.cells2
  obtain ⟨⟨k0, k1, k2⟩, -⟩ := R2.out.cells3
  have F1 := MM.out.setV (i := k) RN.out PJ.out
  have F2 := BB.out
  go_wp2
  refine bodyPost_ret (v := .tuple #[.agg #[.slice (some ⟨bP, 0, none⟩) np np, .slice (some ⟨bN, 0, none⟩) nv nv], .agg #[.int .i64 xa, .int .u32 xb, .int .u32 xc], .bool false, .int .i64 0]) (by simp [results, Try.f28, go_sem, m0, m1, k0, k1, k2]) rfl ?_
  refine ⟨_, _, rfl, ?_, F2⟩
  rw [HRES.out]
  exact F1.toD (M := ⟨M.hs, _⟩) HM1.out (by rw [List.map_set, HM2.out]) E1.out (by rw [List.length_set, E2.out]) (.inl HD.out.1) (.inr (by omega)) (fun x hx a n c e => .inl (HD.out.2.2 x hx a n c e))

set_option maxRecDepth 100000 in
set_option maxHeartbeats 3200000 in
theorem swap_hit (pv vv : Value) (M : Mem) (N k p : Nat) (oa ob oc ya yb yc : Int) (w : World) (D : Nat → Prop) (h : MD D w pv vv M) (G : M.Good N) (hN : N ≤ 999) (hk : k < M.vs.length) (hpn : p < M.hs.length) (hw : (M.msg p ((M.hist p).length - 1)).val = oa ∧ (M.msg p ((M.hist p).length - 1)).ver = ob ∧ (M.msg p ((M.hist p).length - 1)).ref = oc) :
    Calls Try.prog 28 #[.agg #[pv, vv], .int .i64 ((k : Int) + 1), .int .i64 p, .agg #[.int .i64 oa, .int .u32 ob, .int .u32 oc], .agg #[.int .i64 ya, .int .u32 yb, .int .u32 yc]] w fun e w' => ∃ pv' vv', e = .returned (.tuple #[.agg #[pv', vv'], wordV (M.msg p ((M.hist p).length - 1)), .bool true, .int .i64 0]) ∧ MD (Dn D w) w' pv' vv' ((M.readAt k p ((M.hist p).length - 1) true).writeAt k p ya yb yc true) ∧ Below w.heap.size w w' := by
  have hkP : 0 < M.hs.length := by omega
  have hkV : 0 < M.vs.length := by omega
  have hvl := G.nv
  have hpl := G.np
  obtain ⟨bP, bV, P, V, rfl, rfl, m1, m2, h0, hD⟩ := MO.ofD h hkP hkV
  have HD := Lib.hid hD
  clear hD
  obtain ⟨ha, q, vp, hp, hqm, hql, hv⟩ := h0.pick m1 m2 hk hpn
  have hgh := G.hist hpn
  have e1 : P.length = M.hs.length := by rw [← m1, List.length_map]
  have e2 : V.length = M.vs.length := by rw [← m2, List.length_map]
  have hvo := (h0.atV hv).1
  obtain ⟨i, hi⟩ : ∃ i, (M.hist p).length - 1 = i := ⟨_, rfl⟩
  have hiq : i < q.length := by rw [hql]; omega
  have hii : (i : Int) = (q.length : Int) - 1 := by rw [hql]; omega
  obtain ⟨xp, hx⟩ := q_msg hqm hiq
  rw [hi] at hw ⊢
  have hmsg : (M.hist p).getD i zeroMsg = M.msg p i := rfl
  rw [hmsg] at hx
  have HRES : Hid (M.readAt k p i true = ⟨M.hs, M.vs.set k (joinL (withL (M.view k) p i) (M.msg p i).view)⟩) := Lib.hid (by unfold Mem.readAt; simp)
  rw [show wordV (M.msg p i) = .agg #[.int .i64 (M.msg p i).val, .int .u32 (M.msg p i).ver, .int .u32 (M.msg p i).ref] from rfl]
  obtain ⟨⟨xa, xb, xc, xd, xm⟩, hxe⟩ : ∃ x, M.msg p i = x := ⟨_, rfl⟩
  rw [hxe] at hx hw HRES ⊢
  simp only at HRES hw ⊢
  have HX := Lib.hid hx
  clear hi hx hmsg hxe
  obtain ⟨rfl, rfl, rfl⟩ := hw
  have HRES2 : Hid (∀ n, (M.hist p).length = n → (M.readAt k p i true).writeAt k p ya yb yc true = ⟨M.hs.set p (M.hist p ++ [⟨ya, yb, yc, (k : Int) + 1, withL (joinL (withL (M.view k) p i) xm) p n⟩]), M.vs.set k (withL (joinL (withL (M.view k) p i) xm) p n)⟩) := Lib.hid (fun n e => by
    subst e
    rw [HRES.out]
    simp [Mem.writeAt, Mem.hist, Mem.view, List.getD, hk])
  have HM1 := Lib.hid m1
  have HM2 := Lib.hid m2
  have HP := Lib.hid hp
  have HV := Lib.hid hv
  have HQM := Lib.hid hqm
  have HQL := Lib.hid hql
  have hB := h0.le
  obtain ⟨np, hnp⟩ : ∃ n, M.hs.length = n := ⟨_, rfl⟩
  obtain ⟨nv, hnv⟩ : ∃ n, M.vs.length = n := ⟨_, rfl⟩
  have HNP := Lib.hid hnp
  have HNV := Lib.hid hnv
  rw [hnp] at e1 hpn hpl
  rw [hnv] at e2 hk hvl
  rw [hnp, hnv]
  have E1 := Lib.hid e1
  have E2 := Lib.hid e2
  have HVO := Lib.hid hvo
  clear h m1 m2 hp hv hqm hnp hnv hkP hkV e1 e2 hvo
  have hchk : errOf np nv ((k : Int) + 1) p = 0 := by unfold errOf; rw [if_neg (by omega), if_neg (by omega)]
  obtain ⟨hn, hhn⟩ : ∃ n, q.length = n := ⟨_, rfl⟩
  rw [hhn] at HP hql
  have HHN := Lib.hid hhn
  clear hhn
  rw [HHN.out] at hii hiq
  have HII := Lib.hid hii
  have qN := neqW
  clear hii
  have BM := Lib.hid (Box.alloc (Box.alloc (Box.alloc (Box.alloc (Box.new w #[.slice (some ⟨bP, 0, none⟩) np np, .slice (some ⟨bV, 0, none⟩) nv nv] 31 (n := w.heap.size) (by simp)) (.cells #[.int .i64 xa, .int .u32 xb, .int .u32 xc] 45)) (.cells #[.int .i64 ya, .int .u32 yb, .int .u32 yc] 45)) (.cells #[.slice none 0 0, .slice none 0 0] 31)) (.cells #[.int .i64 0, .int .u32 0, .int .u32 0] 45))
  have BO := Lib.hid (Box.alloc (Box.alloc (Box.alloc (Box.new (w.alloc (.cells #[.slice (some ⟨bP, 0, none⟩) np np, .slice (some ⟨bV, 0, none⟩) nv nv] 31)) #[.int .i64 xa, .int .u32 xb, .int .u32 xc] 45 (n := w.heap.size + 1) (by simp)) (.cells #[.int .i64 ya, .int .u32 yb, .int .u32 yc] 45)) (.cells #[.slice none 0 0, .slice none 0 0] 31)) (.cells #[.int .i64 0, .int .u32 0, .int .u32 0] 45))
  have BY := Lib.hid (Box.alloc (Box.alloc (Box.new ((w.alloc (.cells #[.slice (some ⟨bP, 0, none⟩) np np, .slice (some ⟨bV, 0, none⟩) nv nv] 31)).alloc (.cells #[.int .i64 xa, .int .u32 xb, .int .u32 xc] 45)) #[.int .i64 ya, .int .u32 yb, .int .u32 yc] 45 (n := w.heap.size + 1 + 1) (by simp)) (.cells #[.slice none 0 0, .slice none 0 0] 31)) (.cells #[.int .i64 0, .int .u32 0, .int .u32 0] 45))
  have R1 := Lib.hid (Box.alloc (Box.new (((w.alloc (.cells #[.slice (some ⟨bP, 0, none⟩) np np, .slice (some ⟨bV, 0, none⟩) nv nv] 31)).alloc (.cells #[.int .i64 xa, .int .u32 xb, .int .u32 xc] 45)).alloc (.cells #[.int .i64 ya, .int .u32 yb, .int .u32 yc] 45)) #[.slice none 0 0, .slice none 0 0] 31 (n := w.heap.size + 1 + 1 + 1) (by simp)) (.cells #[.int .i64 0, .int .u32 0, .int .u32 0] 45))
  have R2 := Lib.hid (Box.new ((((w.alloc (.cells #[.slice (some ⟨bP, 0, none⟩) np np, .slice (some ⟨bV, 0, none⟩) nv nv] 31)).alloc (.cells #[.int .i64 xa, .int .u32 xb, .int .u32 xc] 45)).alloc (.cells #[.int .i64 ya, .int .u32 yb, .int .u32 yc] 45)).alloc (.cells #[.slice none 0 0, .slice none 0 0] 31)) #[.int .i64 0, .int .u32 0, .int .u32 0] 45 (n := w.heap.size + 1 + 1 + 1 + 1) (by simp))
  have BB := Lib.hid ((((((Below.refl w.heap.size w).alloc (by simp <;> omega) (.cells #[.slice (some ⟨bP, 0, none⟩) np np, .slice (some ⟨bV, 0, none⟩) nv nv] 31)).alloc (by simp <;> omega) (.cells #[.int .i64 xa, .int .u32 xb, .int .u32 xc] 45)).alloc (by simp <;> omega) (.cells #[.int .i64 ya, .int .u32 yb, .int .u32 yc] 45)).alloc (by simp <;> omega) (.cells #[.slice none 0 0, .slice none 0 0] 31)).alloc (by simp <;> omega) (.cells #[.int .i64 0, .int .u32 0, .int .u32 0] 45))
  have MM := Lib.hid (h0.below ((((((Below.refl w.heap.size w).alloc (by simp <;> omega) (.cells #[.slice (some ⟨bP, 0, none⟩) np np, .slice (some ⟨bV, 0, none⟩) nv nv] 31)).alloc (by simp <;> omega) (.cells #[.int .i64 xa, .int .u32 xb, .int .u32 xc] 45)).alloc (by simp <;> omega) (.cells #[.int .i64 ya, .int .u32 yb, .int .u32 yc] 45)).alloc (by simp <;> omega) (.cells #[.slice none 0 0, .slice none 0 0] 31)).alloc (by simp <;> omega) (.cells #[.int .i64 0, .int .u32 0, .int .u32 0] 45)))
  clear h0
  go_enter Try.func28, Try.ntmps28
  go_wp2_with fail
  generalize (((((w.alloc (.cells #[.slice (some ⟨bP, 0, none⟩) np np, .slice (some ⟨bV, 0, none⟩) nv nv] 31)).alloc (.cells #[.int .i64 xa, .int .u32 xb, .int .u32 xc] 45)).alloc (.cells #[.int .i64 ya, .int .u32 yb, .int .u32 yc] 45)).alloc (.cells #[.slice none 0 0, .slice none 0 0] 31)).alloc (.cells #[.int .i64 0, .int .u32 0, .int .u32 0] 45)) = W0 at *
  obtain ⟨br2, hbr2⟩ : ∃ b, w.heap.size + 1 + 1 + 1 + 1 = b := ⟨_, rfl⟩
  obtain ⟨br1, hbr1⟩ : ∃ b, w.heap.size + 1 + 1 + 1 = b := ⟨_, rfl⟩
  obtain ⟨byy, hbyy⟩ : ∃ b, w.heap.size + 1 + 1 = b := ⟨_, rfl⟩
  obtain ⟨bo, hbo⟩ : ∃ b, w.heap.size + 1 = b := ⟨_, rfl⟩
  obtain ⟨bm, hbm⟩ : ∃ b, w.heap.size = b := ⟨_, rfl⟩
  have hbq := hbm
  rw [hbr2] at R2 ⊢
  rw [hbr1] at R1 hbr2 ⊢
  rw [hbyy] at BY hbr1 ⊢
  rw [hbo] at BO hbyy ⊢
  rw [hbm] at BM hbo ⊢
  refine (check_any _ _ np nv _ _ _ (by omega) (by omega)).mono ?_
  rintro e a0 ⟨rfl, hb⟩
  have BM' := Lib.hid (BM.out.below (hb))
  have BO' := Lib.hid (BO.out.below (hb))
  have BY' := Lib.hid (BY.out.below (hb))
  have R1' := Lib.hid (R1.out.below (hb))
  have R2' := Lib.hid (R2.out.below (hb))
  have MM' := Lib.hid (MM.out.below (hb))
  have BB' := Lib.hid (BB.out.trans ((hb).mono BB.out.size))
  clear BM
  have BM := BM'
  clear BM'
  clear BO
  have BO := BO'
  clear BO'
  clear BY
  have BY := BY'
  clear BY'
  clear R1
  have R1 := R1'
  clear R1'
  clear R2
  have R2 := R2'
  clear R2'
  clear MM
  have MM := MM'
  clear MM'
  clear BB
  have BB := BB'
  clear BB'
  clear hb
  rw [hchk]
  obtain ⟨⟨m0, m1⟩, -⟩ := BM.out.cells2
  go_wp2_with fail
  clear m0 m1
  have hltr1 := R1.out.lt
  have hltr2 := R2.out.lt
  refine (read_new 0 bP bV np nv _ k p i hn P V ha q vp (M.view k) xa xb xc xd xm xp _ MM.out E1.out E2.out hpl hvl HP.out HV.out HHN.out (by omega) HX.out HII.out).mono ?_
  rintro e a1 ⟨bN, vp', rfl, hbN, hr, hpj, hb⟩
  have BM' := Lib.hid (BM.out.below (hb))
  have BO' := Lib.hid (BO.out.below (hb))
  have BY' := Lib.hid (BY.out.below (hb))
  have R1' := Lib.hid (R1.out.below (hb))
  have R2' := Lib.hid (R2.out.below (hb))
  have MM' := Lib.hid (MM.out.below (hb))
  have BB' := Lib.hid (BB.out.trans ((hb).mono BB.out.size))
  clear BM
  have BM := BM'
  clear BM'
  clear BO
  have BO := BO'
  clear BO'
  clear BY
  have BY := BY'
  clear BY'
  clear R1
  have R1 := R1'
  clear R1'
  clear R2
  have R2 := R2'
  clear R2'
  clear MM
  have MM := MM'
  clear MM'
  clear BB
  have BB := BB'
  clear BB'
  clear hb
  have RN := Lib.hid (hr)
  have PJ := Lib.hid (hpj)
  clear hr hpj
  go_upto_region 5 with fail
  have hlt_b14 := BB.out.size
  have hlt_b14_BM := BM.out.lt
  have hlt_b14_BO := BO.out.lt
  have hlt_b14_BY := BY.out.lt
  have hlt_b14_R1 := R1.out.lt
  have hlt_b14_R2 := R2.out.lt
  have BM' := Lib.hid (BM.out.below (below_new a1 (.cells #[.slice (some ⟨bP, 0, none⟩) np np, .slice (some ⟨bN, 0, none⟩) nv nv] 31)))
  have BO' := Lib.hid (BO.out.below (below_new a1 (.cells #[.slice (some ⟨bP, 0, none⟩) np np, .slice (some ⟨bN, 0, none⟩) nv nv] 31)))
  have BY' := Lib.hid (BY.out.below (below_new a1 (.cells #[.slice (some ⟨bP, 0, none⟩) np np, .slice (some ⟨bN, 0, none⟩) nv nv] 31)))
  have R1' := Lib.hid (R1.out.below (below_new a1 (.cells #[.slice (some ⟨bP, 0, none⟩) np np, .slice (some ⟨bN, 0, none⟩) nv nv] 31)))
  have R2' := Lib.hid (R2.out.below (below_new a1 (.cells #[.slice (some ⟨bP, 0, none⟩) np np, .slice (some ⟨bN, 0, none⟩) nv nv] 31)))
  have MM' := Lib.hid (MM.out.below (below_new a1 (.cells #[.slice (some ⟨bP, 0, none⟩) np np, .slice (some ⟨bN, 0, none⟩) nv nv] 31)))
  have RN' := Lib.hid (RN.out.below (below_new a1 (.cells #[.slice (some ⟨bP, 0, none⟩) np np, .slice (some ⟨bN, 0, none⟩) nv nv] 31)))
  have PJ' := Lib.hid (PJ.out.below (below_new a1 (.cells #[.slice (some ⟨bP, 0, none⟩) np np, .slice (some ⟨bN, 0, none⟩) nv nv] 31)))
  have BB' := Lib.hid (BB.out.trans ((below_new a1 (.cells #[.slice (some ⟨bP, 0, none⟩) np np, .slice (some ⟨bN, 0, none⟩) nv nv] 31)).mono BB.out.size))
  clear BM
  have BM := BM'
  clear BM'
  clear BO
  have BO := BO'
  clear BO'
  clear BY
  have BY := BY'
  clear BY'
  clear R1
  have R1 := R1'
  clear R1'
  clear R2
  have R2 := R2'
  clear R2'
  clear MM
  have MM := MM'
  clear MM'
  clear RN
  have RN := RN'
  clear RN'
  clear PJ
  have PJ := PJ'
  clear PJ'
  clear BB
  have BB := BB'
  clear BB'
  have B14 := Lib.hid (Box.new a1 #[.slice (some ⟨bP, 0, none⟩) np np, .slice (some ⟨bN, 0, none⟩) nv nv] 31 rfl)
  have hsz_b14 : (World.alloc a1 (.cells #[.slice (some ⟨bP, 0, none⟩) np np, .slice (some ⟨bN, 0, none⟩) nv nv] 31)).heap.size = (World.heap a1).size + 1 := by simp
  generalize World.alloc a1 (.cells #[.slice (some ⟨bP, 0, none⟩) np np, .slice (some ⟨bN, 0, none⟩) nv nv] 31) = a2 at *
  generalize World.heap a1 = hp_b14 at *
  generalize hp_b14.size = b14 at *
  have hlt_b15 := BB.out.size
  have BM' := Lib.hid (BM.out.below (below_new a2 (.cells #[.int .i64 xa, .int .u32 xb, .int .u32 xc] 45)))
  have BO' := Lib.hid (BO.out.below (below_new a2 (.cells #[.int .i64 xa, .int .u32 xb, .int .u32 xc] 45)))
  have BY' := Lib.hid (BY.out.below (below_new a2 (.cells #[.int .i64 xa, .int .u32 xb, .int .u32 xc] 45)))
  have R1' := Lib.hid (R1.out.below (below_new a2 (.cells #[.int .i64 xa, .int .u32 xb, .int .u32 xc] 45)))
  have R2' := Lib.hid (R2.out.below (below_new a2 (.cells #[.int .i64 xa, .int .u32 xb, .int .u32 xc] 45)))
  have MM' := Lib.hid (MM.out.below (below_new a2 (.cells #[.int .i64 xa, .int .u32 xb, .int .u32 xc] 45)))
  have RN' := Lib.hid (RN.out.below (below_new a2 (.cells #[.int .i64 xa, .int .u32 xb, .int .u32 xc] 45)))
  have PJ' := Lib.hid (PJ.out.below (below_new a2 (.cells #[.int .i64 xa, .int .u32 xb, .int .u32 xc] 45)))
  have B14' := Lib.hid (B14.out.below (below_new a2 (.cells #[.int .i64 xa, .int .u32 xb, .int .u32 xc] 45)))
  have BB' := Lib.hid (BB.out.trans ((below_new a2 (.cells #[.int .i64 xa, .int .u32 xb, .int .u32 xc] 45)).mono BB.out.size))
  clear BM
  have BM := BM'
  clear BM'
  clear BO
  have BO := BO'
  clear BO'
  clear BY
  have BY := BY'
  clear BY'
  clear R1
  have R1 := R1'
  clear R1'
  clear R2
  have R2 := R2'
  clear R2'
  clear MM
  have MM := MM'
  clear MM'
  clear RN
  have RN := RN'
  clear RN'
  clear PJ
  have PJ := PJ'
  clear PJ'
  clear B14
  have B14 := B14'
  clear B14'
  clear BB
  have BB := BB'
  clear BB'
  have B15 := Lib.hid (Box.new a2 #[.int .i64 xa, .int .u32 xb, .int .u32 xc] 45 (n := b14 + 1) hsz_b14.symm)
  have hsz_b15 : (World.alloc a2 (.cells #[.int .i64 xa, .int .u32 xb, .int .u32 xc] 45)).heap.size = b14 + 1 + 1 := by simp [hsz_b14]
  rw [hsz_b14] at hlt_b15
  generalize World.alloc a2 (.cells #[.int .i64 xa, .int .u32 xb, .int .u32 xc] 45) = a3 at *
  obtain ⟨b15, hq_b15⟩ : ∃ b, b14 + 1 = b := ⟨_, rfl⟩
  rw [hq_b15] at B15 hsz_b15 ⊢
  obtain ⟨⟨m0, m1, m2⟩, -⟩ := BO.out.cells3
  obtain ⟨⟨k0, k1, k2⟩, -⟩ := B15.out.cells3
  go_upto_region 7 with fail
  clear m0 m1 m2 k0 k1 k2
  have BM' := Lib.hid (BM.out.below ((Below.refl _ _).drew))
  have BO' := Lib.hid (BO.out.below ((Below.refl _ _).drew))
  have BY' := Lib.hid (BY.out.below ((Below.refl _ _).drew))
  have R1' := Lib.hid (R1.out.below ((Below.refl _ _).drew))
  have R2' := Lib.hid (R2.out.below ((Below.refl _ _).drew))
  have MM' := Lib.hid (MM.out.below ((Below.refl _ _).drew))
  have RN' := Lib.hid (RN.out.below ((Below.refl _ _).drew))
  have PJ' := Lib.hid (PJ.out.below ((Below.refl _ _).drew))
  have B14' := Lib.hid (B14.out.below ((Below.refl _ _).drew))
  have B15' := Lib.hid (B15.out.below ((Below.refl _ _).drew))
  have BB' := Lib.hid (BB.out.trans (((Below.refl _ _).drew).mono BB.out.size))
  clear BM
  have BM := BM'
  clear BM'
  clear BO
  have BO := BO'
  clear BO'
  clear BY
  have BY := BY'
  clear BY'
  clear R1
  have R1 := R1'
  clear R1'
  clear R2
  have R2 := R2'
  clear R2'
  clear MM
  have MM := MM'
  clear MM'
  clear RN
  have RN := RN'
  clear RN'
  clear PJ
  have PJ := PJ'
  clear PJ'
  clear B14
  have B14 := B14'
  clear B14'
  clear B15
  have B15 := B15'
  clear B15'
  clear BB
  have BB := BB'
  clear BB'
  refine wp_region_held_drew (S := fun w' => w'.cell? ⟨b14, 0, none⟩ = some (.slice (some ⟨bP, 0, none⟩) np np) ∧ w'.cell? ⟨b14, 1, none⟩ = some (.slice (some ⟨bN, 0, none⟩) nv nv) ∧ w'.cell? ⟨b15, 0, none⟩ = some (.int .i64 xa) ∧ w'.cell? ⟨b15, 1, none⟩ = some (.int .u32 xb) ∧ w'.cell? ⟨b15, 2, none⟩ = some (.int .u32 xc) ∧ w'.cell? ⟨byy, 0, none⟩ = some (.int .i64 ya) ∧ w'.cell? ⟨byy, 1, none⟩ = some (.int .u32 yb) ∧ w'.cell? ⟨byy, 2, none⟩ = some (.int .u32 yc)) (by kernel_rfl) ⟨B14.out.cells2.1.1, B14.out.cells2.1.2, B15.out.cell 0, B15.out.cell 1, B15.out.cell 2, BY.out.cell 0, BY.out.cell 1, BY.out.cell 2⟩ (fun hHeld => ?_)
  generalize World.drew a3 = V0 at *
  refine wpAnyH_take (i := 0) (oi := { dst := some 40, op := Op.load 31 (Operand.tmp 15), type := 31, pos := "memory.go:70", after := #[], guard := none }) (v := ?d1_1xv0) rfl (by kernel_rfl) (by kernel_rfl) (by kernel_rfl) (fun _ _ _ h => h) (Or.inl ⟨by rfl, ?d1_1xy0⟩) (by assumption) ?d1_1xr0
  case d1_1xy0 => (intro w hSw; (try dsimp only at hSw); go_simp; try with_reducible rfl)
  (try simp only [Act.put])
  (try simp only [List.setIfInBounds_toArray])
  (try simp only [List.set_cons_succ])
  (try simp only [List.set_cons_zero])
  refine wpAnyH_take (i := 1) (oi := { dst := some 41, op := Op.move (Operand.tmp 1), type := 3, pos := "memory.go:70", after := #[], guard := none }) (v := ?d1_2xv1) rfl (by kernel_rfl) (by kernel_rfl) (by kernel_rfl) (fun _ _ _ h => h) (Or.inl ⟨by rfl, ?d1_2xy1⟩) (by assumption) ?d1_2xr1
  case d1_2xy1 => (intro w hSw; (try dsimp only at hSw); go_simp; try with_reducible rfl)
  (try simp only [Act.put])
  (try simp only [List.setIfInBounds_toArray])
  (try simp only [List.set_cons_succ])
  (try simp only [List.set_cons_zero])
  refine wpAnyH_take (i := 2) (oi := { dst := some 42, op := Op.move (Operand.tmp 2), type := 42, pos := "memory.go:70", after := #[], guard := none }) (v := ?d1_3xv2) rfl (by kernel_rfl) (by kernel_rfl) (by kernel_rfl) (fun _ _ _ h => h) (Or.inl ⟨by rfl, ?d1_3xy2⟩) (by assumption) ?d1_3xr2
  case d1_3xy2 => (intro w hSw; (try dsimp only at hSw); go_simp; try with_reducible rfl)
  (try simp only [Act.put])
  (try simp only [List.setIfInBounds_toArray])
  (try simp only [List.set_cons_succ])
  (try simp only [List.set_cons_zero])
  refine wpAnyH_take (i := 3) (oi := { dst := some 43, op := Op.load 45 (Operand.tmp 9), type := 45, pos := "memory.go:70", after := #[], guard := none }) (v := ?d1_4xv3) rfl (by kernel_rfl) (by kernel_rfl) (by kernel_rfl) (fun _ _ _ h => h) (Or.inl ⟨by rfl, ?d1_4xy3⟩) (by assumption) ?d1_4xr3
  case d1_4xy3 => (intro w hSw; (try dsimp only at hSw); go_simp; try with_reducible rfl)
  (try simp only [Act.put])
  (try simp only [List.setIfInBounds_toArray])
  (try simp only [List.set_cons_succ])
  (try simp only [List.set_cons_zero])
  refine wpAnyH_take (i := 5) (oi := { dst := some 45, op := Op.load 45 (Operand.tmp 16), type := 45, pos := "memory.go:70", after := #[{ on := 6, ground := Ground.gcOnly Departure.lateStores }], guard := none }) (v := ?d1_5xv5) rfl (by kernel_rfl) (by kernel_rfl) (by kernel_rfl) (fun _ _ _ h => h) (Or.inl ⟨by rfl, ?d1_5xy5⟩) (by assumption) ?d1_5xr5
  case d1_5xy5 => (intro w hSw; (try dsimp only at hSw); go_simp; try with_reducible rfl)
  (try simp only [Act.put])
  (try simp only [List.setIfInBounds_toArray])
  (try simp only [List.set_cons_succ])
  (try simp only [List.set_cons_zero])
  refine wpAnyH_ready (rs := [4]) (by kernel_rfl) (by simp) ?_
  refine AllReadyH.cons (o := { dst := some 44, op := Op.call { callee := Callee.value (Operand.func 38), args := #[Operand.tmp 40, Operand.tmp 41, Operand.tmp 42, Operand.tmp 43, Operand.const (Value.bool true)], argTypes := #[31, 3, 42, 45, 4] }, type := 31, pos := "memory.go:70", after := #[{ on := 0, ground := Ground.data }, { on := 1, ground := Ground.data }, { on := 2, ground := Ground.data }, { on := 3, ground := Ground.data }], guard := none }) rfl (fun K hK => ?_) AllReadyH.nil
  go_simp
  go_at_call 38
  have hltq1 := R1.out.lt
  have hltq2 := R2.out.lt
  refine (write_rel ya yb yc bP bN np nv _ k p hn P (V.set k (vp', (joinL (withL (M.view k) p i) xm))) ha q vp' (joinL (withL (M.view k) p i) xm) _ (MM.out.setV (i := k) RN.out PJ.out) E1.out (by rw [List.length_set, E2.out]) hpl hvl HP.out (by rw [List.getElem?_set_self (by rw [E2.out]; exact hk)]) HHN.out (by omega)).mono ?_
  rintro e v1 ⟨bQ, bM, bh, vp2, tp, rfl, ⟨hl1, hl2, hl3⟩, hr, hr2, hh, hpj, hb⟩
  have BM' := Lib.hid (BM.out.below (hb))
  have BO' := Lib.hid (BO.out.below (hb))
  have BY' := Lib.hid (BY.out.below (hb))
  have R1' := Lib.hid (R1.out.below (hb))
  have R2' := Lib.hid (R2.out.below (hb))
  have MM' := Lib.hid (MM.out.below (hb))
  have RN' := Lib.hid (RN.out.below (hb))
  have PJ' := Lib.hid (PJ.out.below (hb))
  have B14' := Lib.hid (B14.out.below (hb))
  have B15' := Lib.hid (B15.out.below (hb))
  have BB' := Lib.hid (BB.out.trans ((hb).mono BB.out.size))
  clear BM
  have BM := BM'
  clear BM'
  clear BO
  have BO := BO'
  clear BO'
  clear BY
  have BY := BY'
  clear BY'
  clear R1
  have R1 := R1'
  clear R1'
  clear R2
  have R2 := R2'
  clear R2'
  clear MM
  have MM := MM'
  clear MM'
  clear RN
  have RN := RN'
  clear RN'
  clear PJ
  have PJ := PJ'
  clear PJ'
  clear B14
  have B14 := B14'
  clear B14'
  clear B15
  have B15 := B15'
  clear B15'
  clear BB
  have BB := BB'
  clear BB'
  clear hb
  have RP := Lib.hid (hr)
  have RV := Lib.hid (hr2)
  have HN := Lib.hid (hh)
  have PS := Lib.hid (hpj)
  clear hr hr2 hh hpj
  go_simp
  refine hK.out _ _ ?_ (fun hHeld => ?_)
  · exact ⟨B14.out.cells2.1.1, B14.out.cells2.1.2, B15.out.cell 0, B15.out.cell 1, B15.out.cell 2, BY.out.cell 0, BY.out.cell 1, BY.out.cell 2⟩
  clear hK K
  (try simp only [Act.put])
  (try simp only [List.setIfInBounds_toArray])
  (try simp only [List.set_cons_succ])
  (try simp only [List.set_cons_zero])
  refine wpAnyH_ready (rs := [6]) (by kernel_rfl) (by simp) ?_
  refine AllReadyH.cons (o := { dst := none, op := Op.store 31 (Operand.tmp 10) (Operand.tmp 44), type := 0, pos := "memory.go:70", after := #[{ on := 4, ground := Ground.data }, { on := 4, ground := Ground.chain }, { on := 0, ground := Ground.phase }, { on := 1, ground := Ground.phase }, { on := 2, ground := Ground.phase }, { on := 3, ground := Ground.phase }, { on := 4, ground := Ground.phase }, { on := 5, ground := Ground.textOnly Departure.lateStores }], guard := none }) rfl (fun K hK => ?_) AllReadyH.nil
  obtain ⟨⟨m0, m1⟩, g0, g1⟩ := R1.out.cells2
  go_simp
  clear m0 g0 m1 g1
  have BM' := Lib.hid (BM.out.only (by omega) (((Only.refl br1 v1).set 0 (.slice (some ⟨bQ, 0, none⟩) np np)).set 1 (.slice (some ⟨bM, 0, none⟩) nv nv)))
  have BO' := Lib.hid (BO.out.only (by omega) (((Only.refl br1 v1).set 0 (.slice (some ⟨bQ, 0, none⟩) np np)).set 1 (.slice (some ⟨bM, 0, none⟩) nv nv)))
  have BY' := Lib.hid (BY.out.only (by omega) (((Only.refl br1 v1).set 0 (.slice (some ⟨bQ, 0, none⟩) np np)).set 1 (.slice (some ⟨bM, 0, none⟩) nv nv)))
  have R1' := Lib.hid (((R1.out).set 0 (.slice (some ⟨bQ, 0, none⟩) np np)).set 1 (.slice (some ⟨bM, 0, none⟩) nv nv))
  have R2' := Lib.hid (R2.out.only (by omega) (((Only.refl br1 v1).set 0 (.slice (some ⟨bQ, 0, none⟩) np np)).set 1 (.slice (some ⟨bM, 0, none⟩) nv nv)))
  have MM' := Lib.hid (MM.out.only R1.out (by omega) (((Only.refl br1 v1).set 0 (.slice (some ⟨bQ, 0, none⟩) np np)).set 1 (.slice (some ⟨bM, 0, none⟩) nv nv)))
  have RN' := Lib.hid (RN.out.only (by omega) (((Only.refl br1 v1).set 0 (.slice (some ⟨bQ, 0, none⟩) np np)).set 1 (.slice (some ⟨bM, 0, none⟩) nv nv)))
  have PJ' := Lib.hid (PJ.out.only R1.out (((Only.refl br1 v1).set 0 (.slice (some ⟨bQ, 0, none⟩) np np)).set 1 (.slice (some ⟨bM, 0, none⟩) nv nv)))
  have B14' := Lib.hid (B14.out.only (by omega) (((Only.refl br1 v1).set 0 (.slice (some ⟨bQ, 0, none⟩) np np)).set 1 (.slice (some ⟨bM, 0, none⟩) nv nv)))
  have B15' := Lib.hid (B15.out.only (by omega) (((Only.refl br1 v1).set 0 (.slice (some ⟨bQ, 0, none⟩) np np)).set 1 (.slice (some ⟨bM, 0, none⟩) nv nv)))
  have RP' := Lib.hid (RP.out.only (by omega) (((Only.refl br1 v1).set 0 (.slice (some ⟨bQ, 0, none⟩) np np)).set 1 (.slice (some ⟨bM, 0, none⟩) nv nv)))
  have RV' := Lib.hid (RV.out.only (by omega) (((Only.refl br1 v1).set 0 (.slice (some ⟨bQ, 0, none⟩) np np)).set 1 (.slice (some ⟨bM, 0, none⟩) nv nv)))
  have HN' := Lib.hid (HN.out.only R1.out (fun a n c e => by cases e; simp only; omega) (((Only.refl br1 v1).set 0 (.slice (some ⟨bQ, 0, none⟩) np np)).set 1 (.slice (some ⟨bM, 0, none⟩) nv nv)))
  have PS' := Lib.hid (PS.out.only R1.out (((Only.refl br1 v1).set 0 (.slice (some ⟨bQ, 0, none⟩) np np)).set 1 (.slice (some ⟨bM, 0, none⟩) nv nv)))
  have BB' := Lib.hid (((BB.out).put br1 (by omega) 0 (.slice (some ⟨bQ, 0, none⟩) np np)).put br1 (by omega) 1 (.slice (some ⟨bM, 0, none⟩) nv nv))
  clear BM
  have BM := BM'
  clear BM'
  clear BO
  have BO := BO'
  clear BO'
  clear BY
  have BY := BY'
  clear BY'
  clear R1
  have R1 := R1'
  clear R1'
  clear R2
  have R2 := R2'
  clear R2'
  clear MM
  have MM := MM'
  clear MM'
  clear RN
  have RN := RN'
  clear RN'
  clear PJ
  have PJ := PJ'
  clear PJ'
  clear B14
  have B14 := B14'
  clear B14'
  clear B15
  have B15 := B15'
  clear B15'
  clear RP
  have RP := RP'
  clear RP'
  clear RV
  have RV := RV'
  clear RV'
  clear HN
  have HN := HN'
  clear HN'
  clear PS
  have PS := PS'
  clear PS'
  clear BB
  have BB := BB'
  clear BB'
  generalize (World.setCell (World.setCell v1 ⟨br1, 0, none⟩ (.slice (some ⟨bQ, 0, none⟩) np np)) ⟨br1, 1, none⟩ (.slice (some ⟨bM, 0, none⟩) nv nv)) = v2 at *
  refine hK.out _ _ ?_ (fun hHeld => ?_)
  · exact ⟨B14.out.cells2.1.1, B14.out.cells2.1.2, B15.out.cell 0, B15.out.cell 1, B15.out.cell 2, BY.out.cell 0, BY.out.cell 1, BY.out.cell 2⟩
  clear hK K
  (try simp only [Act.put])
  (try simp only [List.setIfInBounds_toArray])
  (try simp only [List.set_cons_succ])
  (try simp only [List.set_cons_zero])
  refine wpAnyH_ready (rs := [7]) (by kernel_rfl) (by simp) ?_
  refine AllReadyH.cons (o := { dst := none, op := Op.store 45 (Operand.tmp 11) (Operand.tmp 45), type := 0, pos := "memory.go:70", after := #[{ on := 5, ground := Ground.data }, { on := 6, ground := Ground.chain }, { on := 0, ground := Ground.phase }, { on := 1, ground := Ground.phase }, { on := 2, ground := Ground.phase }, { on := 3, ground := Ground.phase }, { on := 4, ground := Ground.phase }, { on := 5, ground := Ground.phase }, { on := 6, ground := Ground.phase }], guard := none }) rfl (fun K hK => ?_) AllReadyH.nil
  obtain ⟨⟨m0, m1, m2⟩, g0, g1, g2⟩ := R2.out.cells3
  go_simp
  clear m0 g0 m1 g1 m2 g2
  have BM' := Lib.hid (BM.out.only (by omega) ((((Only.refl br2 v2).set 0 (.int .i64 xa)).set 1 (.int .u32 xb)).set 2 (.int .u32 xc)))
  have BO' := Lib.hid (BO.out.only (by omega) ((((Only.refl br2 v2).set 0 (.int .i64 xa)).set 1 (.int .u32 xb)).set 2 (.int .u32 xc)))
  have BY' := Lib.hid (BY.out.only (by omega) ((((Only.refl br2 v2).set 0 (.int .i64 xa)).set 1 (.int .u32 xb)).set 2 (.int .u32 xc)))
  have R1' := Lib.hid (R1.out.only (by omega) ((((Only.refl br2 v2).set 0 (.int .i64 xa)).set 1 (.int .u32 xb)).set 2 (.int .u32 xc)))
  have R2' := Lib.hid ((((R2.out).set 0 (.int .i64 xa)).set 1 (.int .u32 xb)).set 2 (.int .u32 xc))
  have MM' := Lib.hid (MM.out.only R2.out (by omega) ((((Only.refl br2 v2).set 0 (.int .i64 xa)).set 1 (.int .u32 xb)).set 2 (.int .u32 xc)))
  have RN' := Lib.hid (RN.out.only (by omega) ((((Only.refl br2 v2).set 0 (.int .i64 xa)).set 1 (.int .u32 xb)).set 2 (.int .u32 xc)))
  have PJ' := Lib.hid (PJ.out.only R2.out ((((Only.refl br2 v2).set 0 (.int .i64 xa)).set 1 (.int .u32 xb)).set 2 (.int .u32 xc)))
  have B14' := Lib.hid (B14.out.only (by omega) ((((Only.refl br2 v2).set 0 (.int .i64 xa)).set 1 (.int .u32 xb)).set 2 (.int .u32 xc)))
  have B15' := Lib.hid (B15.out.only (by omega) ((((Only.refl br2 v2).set 0 (.int .i64 xa)).set 1 (.int .u32 xb)).set 2 (.int .u32 xc)))
  have RP' := Lib.hid (RP.out.only (by omega) ((((Only.refl br2 v2).set 0 (.int .i64 xa)).set 1 (.int .u32 xb)).set 2 (.int .u32 xc)))
  have RV' := Lib.hid (RV.out.only (by omega) ((((Only.refl br2 v2).set 0 (.int .i64 xa)).set 1 (.int .u32 xb)).set 2 (.int .u32 xc)))
  have HN' := Lib.hid (HN.out.only R2.out (fun a n c e => by cases e; simp only; omega) ((((Only.refl br2 v2).set 0 (.int .i64 xa)).set 1 (.int .u32 xb)).set 2 (.int .u32 xc)))
  have PS' := Lib.hid (PS.out.only R2.out ((((Only.refl br2 v2).set 0 (.int .i64 xa)).set 1 (.int .u32 xb)).set 2 (.int .u32 xc)))
  have BB' := Lib.hid ((((BB.out).put br2 (by omega) 0 (.int .i64 xa)).put br2 (by omega) 1 (.int .u32 xb)).put br2 (by omega) 2 (.int .u32 xc))
  clear BM
  have BM := BM'
  clear BM'
  clear BO
  have BO := BO'
  clear BO'
  clear BY
  have BY := BY'
  clear BY'
  clear R1
  have R1 := R1'
  clear R1'
  clear R2
  have R2 := R2'
  clear R2'
  clear MM
  have MM := MM'
  clear MM'
  clear RN
  have RN := RN'
  clear RN'
  clear PJ
  have PJ := PJ'
  clear PJ'
  clear B14
  have B14 := B14'
  clear B14'
  clear B15
  have B15 := B15'
  clear B15'
  clear RP
  have RP := RP'
  clear RP'
  clear RV
  have RV := RV'
  clear RV'
  clear HN
  have HN := HN'
  clear HN'
  clear PS
  have PS := PS'
  clear PS'
  clear BB
  have BB := BB'
  clear BB'
  generalize (World.setCell (World.setCell (World.setCell v2 ⟨br2, 0, none⟩ (.int .i64 xa)) ⟨br2, 1, none⟩ (.int .u32 xb)) ⟨br2, 2, none⟩ (.int .u32 xc)) = v3 at *
  refine hK.out _ _ ?_ (fun hHeld => ?_)
  · exact ⟨B14.out.cells2.1.1, B14.out.cells2.1.2, B15.out.cell 0, B15.out.cell 1, B15.out.cell 2, BY.out.cell 0, BY.out.cell 1, BY.out.cell 2⟩
  clear hK K
  (try simp only [Act.put])
  (try simp only [List.setIfInBounds_toArray])
  (try simp only [List.set_cons_succ])
  (try simp only [List.set_cons_zero])
  refine wpAnyH_ready (rs := [8]) (by kernel_rfl) (by simp) ?_
  refine AllReadyH.cons (o := { dst := some 12, op := Op.assign (Operand.const (Value.bool true)), type := 4, pos := "memory.go:70", after := #[{ on := 7, ground := Ground.chain }, { on := 0, ground := Ground.phase }, { on := 1, ground := Ground.phase }, { on := 2, ground := Ground.phase }, { on := 3, ground := Ground.phase }, { on := 4, ground := Ground.phase }, { on := 5, ground := Ground.phase }, { on := 6, ground := Ground.phase }, { on := 7, ground := Ground.phase }], guard := none }) rfl (fun K hK => ?_) AllReadyH.nil
  go_simp
  refine hK.out _ _ ?_ (fun hHeld => ?_)
  · exact ⟨B14.out.cells2.1.1, B14.out.cells2.1.2, B15.out.cell 0, B15.out.cell 1, B15.out.cell 2, BY.out.cell 0, BY.out.cell 1, BY.out.cell 2⟩
  clear hK K
  (try simp only [Act.put])
  (try simp only [List.setIfInBounds_toArray])
  (try simp only [List.set_cons_succ])
  (try simp only [List.set_cons_zero])
  refine wpAnyH_ready (rs := [9]) (by kernel_rfl) (by simp) ?_
  refine AllReadyH.cons (o := { dst := some 13, op := Op.assign (Operand.const (Value.int IntKind.i64 0)), type := 32, pos := "memory.go:70", after := #[{ on := 8, ground := Ground.chain }, { on := 0, ground := Ground.phase }, { on := 1, ground := Ground.phase }, { on := 2, ground := Ground.phase }, { on := 3, ground := Ground.phase }, { on := 4, ground := Ground.phase }, { on := 5, ground := Ground.phase }, { on := 6, ground := Ground.phase }, { on := 7, ground := Ground.phase }, { on := 8, ground := Ground.phase }], guard := none }) rfl (fun K hK => ?_) AllReadyH.nil
  go_simp
  refine hK.out _ _ ?_ (fun hHeld => ?_)
  · exact ⟨B14.out.cells2.1.1, B14.out.cells2.1.2, B15.out.cell 0, B15.out.cell 1, B15.out.cell 2, BY.out.cell 0, BY.out.cell 1, BY.out.cell 2⟩
  clear hK K
  (try simp only [Act.put])
  (try simp only [List.setIfInBounds_toArray])
  (try simp only [List.set_cons_succ])
  (try simp only [List.set_cons_zero])
  refine wpAnyH_done (by kernel_rfl) ?_ _
  obtain ⟨⟨m0, m1⟩, -⟩ := R1.out.cells2
  obtain ⟨⟨k0, k1, k2⟩, -⟩ := R2.out.cells3
  have F1 := ((MM.out.setV (i := k) RN.out PJ.out).setV (i := k) RV.out PS.out).setP (i := p) RP.out HN.out
  have F2 := BB.out
  go_wp2
  refine bodyPost_ret (v := .tuple #[.agg #[.slice (some ⟨bQ, 0, none⟩) np np, .slice (some ⟨bM, 0, none⟩) nv nv], .agg #[.int .i64 xa, .int .u32 xb, .int .u32 xc], .bool true, .int .i64 0]) (by simp [results, Try.f28, go_sem, m0, m1, k0, k1, k2]) rfl ?_
  refine ⟨_, _, rfl, ?_, F2⟩
  rw [HRES2.out hn hql.symm]
  exact F1.toD (M := ⟨_, _⟩) (by rw [List.map_set, HM1.out, ← HQM.out]; simp) (by rw [List.set_set, List.map_set, HM2.out]) (by rw [List.length_set, E1.out]) (by rw [List.length_set, List.length_set, E2.out]) (.inr (by omega)) (.inr (by omega)) (fun x hx a n c e => by
    rcases List.mem_or_eq_of_mem_set hx with hx | rfl
    · exact .inl (HD.out.2.2 x hx a n c e)
    · cases e; exact .inr (by simp only; omega))
end Go.Proofs.Ytbaljoehgdhhhaa
