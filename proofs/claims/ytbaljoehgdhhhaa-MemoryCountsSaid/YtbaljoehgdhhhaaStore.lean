/- The contracts of Store, where the thread and the address exist. -/
import Derived.Test.YtbaljoehgdhhhaaSpec
namespace Go.Proofs.Ytbaljoehgdhhhaa
open Go.RowKit Go.Shelf Go.Maps

set_option maxRecDepth 100000 in
set_option maxHeartbeats 3200000 in
theorem store_rel (pv vv : Value) (M : Mem) (N k p : Nat) (ya yb yc : Int) (w : World) (D : Nat → Prop) (h : MD D w pv vv M) (G : M.Good N) (hN : N ≤ 999) (hk : k < M.vs.length) (hpn : p < M.hs.length) :
    Calls Try.prog 24 #[.agg #[pv, vv], .int .i64 ((k : Int) + 1), .int .i64 p, .agg #[.int .i64 ya, .int .u32 yb, .int .u32 yc], .bool true] w fun e w' => ∃ pv' vv', e = .returned (.tuple #[.agg #[pv', vv'], .int .i64 0]) ∧ MD (Dn D w) w' pv' vv' (M.writeAt k p ya yb yc true) ∧ Below w.heap.size w w' := by
  have hkP : 0 < M.hs.length := by omega
  have hkV : 0 < M.vs.length := by omega
  have hvl := G.nv
  have hpl := G.np
  obtain ⟨bP, bV, P, V, rfl, rfl, m1, m2, h0, hD⟩ := MO.ofD h hkP hkV
  have HD := Lib.hid hD
  clear hD
  obtain ⟨ha, q, vp, hp, hqm, hql, hv⟩ := h0.pick m1 m2 hk hpn
  have hgh := G.hist hpn
  have e1 : P.length = M.hs.length := by rw [← m1, List.length_map]
  have e2 : V.length = M.vs.length := by rw [← m2, List.length_map]
  have hvo := (h0.atV hv).1
  have HRES : Hid (∀ n, (M.hist p).length = n → M.writeAt k p ya yb yc true = ⟨M.hs.set p (M.hist p ++ [⟨ya, yb, yc, (k : Int) + 1, withL (M.view k) p n⟩]), M.vs.set k (withL (M.view k) p n)⟩) := Lib.hid (fun n e => by subst e; unfold Mem.writeAt; simp)
  have HM1 := Lib.hid m1
  have HM2 := Lib.hid m2
  have HP := Lib.hid hp
  have HV := Lib.hid hv
  have HQM := Lib.hid hqm
  have HQL := Lib.hid hql
  have hB := h0.le
  obtain ⟨np, hnp⟩ : ∃ n, M.hs.length = n := ⟨_, rfl⟩
  obtain ⟨nv, hnv⟩ : ∃ n, M.vs.length = n := ⟨_, rfl⟩
  have HNP := Lib.hid hnp
  have HNV := Lib.hid hnv
  rw [hnp] at e1 hpn hpl
  rw [hnv] at e2 hk hvl
  rw [hnp, hnv]
  have E1 := Lib.hid e1
  have E2 := Lib.hid e2
  have HVO := Lib.hid hvo
  clear h m1 m2 hp hv hqm hnp hnv hkP hkV e1 e2 hvo
  have hchk : errOf np nv ((k : Int) + 1) p = 0 := by unfold errOf; rw [if_neg (by omega), if_neg (by omega)]
  obtain ⟨hn, hhn⟩ : ∃ n, q.length = n := ⟨_, rfl⟩
  rw [hhn] at HP hql
  have HHN := Lib.hid hhn
  clear hhn
  have BM := Lib.hid (Box.alloc (Box.alloc (Box.new w #[.slice (some ⟨bP, 0, none⟩) np np, .slice (some ⟨bV, 0, none⟩) nv nv] 31 (n := w.heap.size) (by simp)) (.cells #[.int .i64 ya, .int .u32 yb, .int .u32 yc] 45)) (.cells #[.slice none 0 0, .slice none 0 0] 31))
  have BY := Lib.hid (Box.alloc (Box.new (w.alloc (.cells #[.slice (some ⟨bP, 0, none⟩) np np, .slice (some ⟨bV, 0, none⟩) nv nv] 31)) #[.int .i64 ya, .int .u32 yb, .int .u32 yc] 45 (n := w.heap.size + 1) (by simp)) (.cells #[.slice none 0 0, .slice none 0 0] 31))
  have R1 := Lib.hid (Box.new ((w.alloc (.cells #[.slice (some ⟨bP, 0, none⟩) np np, .slice (some ⟨bV, 0, none⟩) nv nv] 31)).alloc (.cells #[.int .i64 ya, .int .u32 yb, .int .u32 yc] 45)) #[.slice none 0 0, .slice none 0 0] 31 (n := w.heap.size + 1 + 1) (by simp))
  have BB := Lib.hid ((((Below.refl w.heap.size w).alloc (by simp <;> omega) (.cells #[.slice (some ⟨bP, 0, none⟩) np np, .slice (some ⟨bV, 0, none⟩) nv nv] 31)).alloc (by simp <;> omega) (.cells #[.int .i64 ya, .int .u32 yb, .int .u32 yc] 45)).alloc (by simp <;> omega) (.cells #[.slice none 0 0, .slice none 0 0] 31))
  have MM := Lib.hid (h0.below ((((Below.refl w.heap.size w).alloc (by simp <;> omega) (.cells #[.slice (some ⟨bP, 0, none⟩) np np, .slice (some ⟨bV, 0, none⟩) nv nv] 31)).alloc (by simp <;> omega) (.cells #[.int .i64 ya, .int .u32 yb, .int .u32 yc] 45)).alloc (by simp <;> omega) (.cells #[.slice none 0 0, .slice none 0 0] 31)))
  clear h0
  go_enter Try.func24, Try.ntmps24
  go_wp2_with fail
  generalize (((w.alloc (.cells #[.slice (some ⟨bP, 0, none⟩) np np, .slice (some ⟨bV, 0, none⟩) nv nv] 31)).alloc (.cells #[.int .i64 ya, .int .u32 yb, .int .u32 yc] 45)).alloc (.cells #[.slice none 0 0, .slice none 0 0] 31)) = W0 at *
  obtain ⟨br1, hbr1⟩ : ∃ b, w.heap.size + 1 + 1 = b := ⟨_, rfl⟩
  obtain ⟨byy, hbyy⟩ : ∃ b, w.heap.size + 1 = b := ⟨_, rfl⟩
  obtain ⟨bm, hbm⟩ : ∃ b, w.heap.size = b := ⟨_, rfl⟩
  have hbq := hbm
  rw [hbr1] at R1 ⊢
  rw [hbyy] at BY hbr1 ⊢
  rw [hbm] at BM hbyy ⊢
  refine (check_any _ _ np nv _ _ _ (by omega) (by omega)).mono ?_
  rintro e a0 ⟨rfl, hb⟩
  have BM' := Lib.hid (BM.out.below (hb))
  have BY' := Lib.hid (BY.out.below (hb))
  have R1' := Lib.hid (R1.out.below (hb))
  have MM' := Lib.hid (MM.out.below (hb))
  have BB' := Lib.hid (BB.out.trans ((hb).mono BB.out.size))
  clear BM
  have BM := BM'
  clear BM'
  clear BY
  have BY := BY'
  clear BY'
  clear R1
  have R1 := R1'
  clear R1'
  clear MM
  have MM := MM'
  clear MM'
  clear BB
  have BB := BB'
  clear BB'
  clear hb
  rw [hchk]
  obtain ⟨⟨m0, m1⟩, -⟩ := BM.out.cells2
  obtain ⟨⟨k0, k1, k2⟩, -⟩ := BY.out.cells3
  go_wp2_with fail
  clear m0 m1 k0 k1 k2
  have hltr1 := R1.out.lt
  refine (write_rel ya yb yc bP bV np nv _ k p hn P V ha q vp (M.view k) _ MM.out E1.out E2.out hpl hvl HP.out HV.out HHN.out (by omega)).mono ?_
  rintro e a1 ⟨bN, bM, bh, vp', tp, rfl, ⟨hl1, hl2, hl3⟩, hr, hr2, hh, hpj, hb⟩
  have BM' := Lib.hid (BM.out.below (hb))
  have BY' := Lib.hid (BY.out.below (hb))
  have R1' := Lib.hid (R1.out.below (hb))
  have MM' := Lib.hid (MM.out.below (hb))
  have BB' := Lib.hid (BB.out.trans ((hb).mono BB.out.size))
  clear BM
  have BM := BM'
  clear BM'
  clear BY
  have BY := BY'
  clear BY'
  clear R1
  have R1 := R1'
  clear R1'
  clear MM
  have MM := MM'
  clear MM'
  clear BB
  have BB := BB'
  clear BB'
  clear hb
  have RP := Lib.hid (hr)
  have RV := Lib.hid (hr2)
  have HN := Lib.hid (hh)
  have PS := Lib.hid (hpj)
  clear hr hr2 hh hpj
  obtain ⟨⟨m0, m1⟩, g0, g1⟩ := R1.out.cells2
  have F1 := (MM.out.only R1.out (by omega) (((Only.refl br1 a1).set 0 (.slice (some ⟨bN, 0, none⟩) np np)).set 1 (.slice (some ⟨bM, 0, none⟩) nv nv))).setV (i := k) (RV.out.only (by omega) (((Only.refl br1 a1).set 0 (.slice (some ⟨bN, 0, none⟩) np np)).set 1 (.slice (some ⟨bM, 0, none⟩) nv nv))) (PS.out.only R1.out (((Only.refl br1 a1).set 0 (.slice (some ⟨bN, 0, none⟩) np np)).set 1 (.slice (some ⟨bM, 0, none⟩) nv nv)))
  have F6 := RP.out.only (by omega) (((Only.refl br1 a1).set 0 (.slice (some ⟨bN, 0, none⟩) np np)).set 1 (.slice (some ⟨bM, 0, none⟩) nv nv))
  have F7 := HN.out.only R1.out (fun a n c e => by cases e; simp only; omega) (((Only.refl br1 a1).set 0 (.slice (some ⟨bN, 0, none⟩) np np)).set 1 (.slice (some ⟨bM, 0, none⟩) nv nv))
  have F2 := (BB.out.put br1 (by omega) 0 (.slice (some ⟨bN, 0, none⟩) np np)).put br1 (by omega) 1 (.slice (some ⟨bM, 0, none⟩) nv nv)
  obtain ⟨⟨c0, c1⟩, -⟩ := ((R1.out.set 0 (.slice (some ⟨bN, 0, none⟩) np np)).set 1 (.slice (some ⟨bM, 0, none⟩) nv nv)).cells2
  go_wp2
  refine bodyPost_ret (v := .tuple #[.agg #[.slice (some ⟨bN, 0, none⟩) np np, .slice (some ⟨bM, 0, none⟩) nv nv], .int .i64 0]) (by simp [results, Try.f24, go_sem, c0, c1]) rfl ?_
  refine ⟨_, _, rfl, ?_, F2⟩
  rw [HRES.out hn hql.symm]
  exact (F1.setP (i := p) F6 F7).toD (M := ⟨_, _⟩) (by rw [List.map_set, HM1.out, ← HQM.out]; simp) (by rw [List.map_set, HM2.out]) (by rw [List.length_set, E1.out]) (by rw [List.length_set, E2.out]) (.inr (by omega)) (.inr (by omega)) (fun x hx a n c e => by
    rcases List.mem_or_eq_of_mem_set hx with hx | rfl
    · exact .inl (HD.out.2.2 x hx a n c e)
    · cases e; exact .inr (by simp only; omega))

set_option maxRecDepth 100000 in
set_option maxHeartbeats 3200000 in
theorem store_plain (pv vv : Value) (M : Mem) (N k p : Nat) (ya yb yc : Int) (w : World) (D : Nat → Prop) (h : MD D w pv vv M) (G : M.Good N) (hN : N ≤ 999) (hk : k < M.vs.length) (hpn : p < M.hs.length) :
    Calls Try.prog 24 #[.agg #[pv, vv], .int .i64 ((k : Int) + 1), .int .i64 p, .agg #[.int .i64 ya, .int .u32 yb, .int .u32 yc], .bool false] w fun e w' => ∃ pv' vv', e = .returned (.tuple #[.agg #[pv', vv'], .int .i64 0]) ∧ MD (Dn D w) w' pv' vv' (M.writeAt k p ya yb yc false) ∧ Below w.heap.size w w' := by
  have hkP : 0 < M.hs.length := by omega
  have hkV : 0 < M.vs.length := by omega
  have hvl := G.nv
  have hpl := G.np
  obtain ⟨bP, bV, P, V, rfl, rfl, m1, m2, h0, hD⟩ := MO.ofD h hkP hkV
  have HD := Lib.hid hD
  clear hD
  obtain ⟨ha, q, vp, hp, hqm, hql, hv⟩ := h0.pick m1 m2 hk hpn
  have hgh := G.hist hpn
  have e1 : P.length = M.hs.length := by rw [← m1, List.length_map]
  have e2 : V.length = M.vs.length := by rw [← m2, List.length_map]
  have hvo := (h0.atV hv).1
  have HRES : Hid (∀ n, (M.hist p).length = n → M.writeAt k p ya yb yc false = ⟨M.hs.set p (M.hist p ++ [⟨ya, yb, yc, (k : Int) + 1, withL [] p n⟩]), M.vs.set k (withL (M.view k) p n)⟩) := Lib.hid (fun n e => by subst e; unfold Mem.writeAt; simp)
  have HM1 := Lib.hid m1
  have HM2 := Lib.hid m2
  have HP := Lib.hid hp
  have HV := Lib.hid hv
  have HQM := Lib.hid hqm
  have HQL := Lib.hid hql
  have hB := h0.le
  obtain ⟨np, hnp⟩ : ∃ n, M.hs.length = n := ⟨_, rfl⟩
  obtain ⟨nv, hnv⟩ : ∃ n, M.vs.length = n := ⟨_, rfl⟩
  have HNP := Lib.hid hnp
  have HNV := Lib.hid hnv
  rw [hnp] at e1 hpn hpl
  rw [hnv] at e2 hk hvl
  rw [hnp, hnv]
  have E1 := Lib.hid e1
  have E2 := Lib.hid e2
  have HVO := Lib.hid hvo
  clear h m1 m2 hp hv hqm hnp hnv hkP hkV e1 e2 hvo
  have hchk : errOf np nv ((k : Int) + 1) p = 0 := by unfold errOf; rw [if_neg (by omega), if_neg (by omega)]
  obtain ⟨hn, hhn⟩ : ∃ n, q.length = n := ⟨_, rfl⟩
  rw [hhn] at HP hql
  have HHN := Lib.hid hhn
  clear hhn
  have BM := Lib.hid (Box.alloc (Box.alloc (Box.new w #[.slice (some ⟨bP, 0, none⟩) np np, .slice (some ⟨bV, 0, none⟩) nv nv] 31 (n := w.heap.size) (by simp)) (.cells #[.int .i64 ya, .int .u32 yb, .int .u32 yc] 45)) (.cells #[.slice none 0 0, .slice none 0 0] 31))
  have BY := Lib.hid (Box.alloc (Box.new (w.alloc (.cells #[.slice (some ⟨bP, 0, none⟩) np np, .slice (some ⟨bV, 0, none⟩) nv nv] 31)) #[.int .i64 ya, .int .u32 yb, .int .u32 yc] 45 (n := w.heap.size + 1) (by simp)) (.cells #[.slice none 0 0, .slice none 0 0] 31))
  have R1 := Lib.hid (Box.new ((w.alloc (.cells #[.slice (some ⟨bP, 0, none⟩) np np, .slice (some ⟨bV, 0, none⟩) nv nv] 31)).alloc (.cells #[.int .i64 ya, .int .u32 yb, .int .u32 yc] 45)) #[.slice none 0 0, .slice none 0 0] 31 (n := w.heap.size + 1 + 1) (by simp))
  have BB := Lib.hid ((((Below.refl w.heap.size w).alloc (by simp <;> omega) (.cells #[.slice (some ⟨bP, 0, none⟩) np np, .slice (some ⟨bV, 0, none⟩) nv nv] 31)).alloc (by simp <;> omega) (.cells #[.int .i64 ya, .int .u32 yb, .int .u32 yc] 45)).alloc (by simp <;> omega) (.cells #[.slice none 0 0, .slice none 0 0] 31))
  have MM := Lib.hid (h0.below ((((Below.refl w.heap.size w).alloc (by simp <;> omega) (.cells #[.slice (some ⟨bP, 0, none⟩) np np, .slice (some ⟨bV, 0, none⟩) nv nv] 31)).alloc (by simp <;> omega) (.cells #[.int .i64 ya, .int .u32 yb, .int .u32 yc] 45)).alloc (by simp <;> omega) (.cells #[.slice none 0 0, .slice none 0 0] 31)))
  clear h0
  go_enter Try.func24, Try.ntmps24
  go_wp2_with fail
  generalize (((w.alloc (.cells #[.slice (some ⟨bP, 0, none⟩) np np, .slice (some ⟨bV, 0, none⟩) nv nv] 31)).alloc (.cells #[.int .i64 ya, .int .u32 yb, .int .u32 yc] 45)).alloc (.cells #[.slice none 0 0, .slice none 0 0] 31)) = W0 at *
  obtain ⟨br1, hbr1⟩ : ∃ b, w.heap.size + 1 + 1 = b := ⟨_, rfl⟩
  obtain ⟨byy, hbyy⟩ : ∃ b, w.heap.size + 1 = b := ⟨_, rfl⟩
  obtain ⟨bm, hbm⟩ : ∃ b, w.heap.size = b := ⟨_, rfl⟩
  have hbq := hbm
  rw [hbr1] at R1 ⊢
  rw [hbyy] at BY hbr1 ⊢
  rw [hbm] at BM hbyy ⊢
  refine (check_any _ _ np nv _ _ _ (by omega) (by omega)).mono ?_
  rintro e a0 ⟨rfl, hb⟩
  have BM' := Lib.hid (BM.out.below (hb))
  have BY' := Lib.hid (BY.out.below (hb))
  have R1' := Lib.hid (R1.out.below (hb))
  have MM' := Lib.hid (MM.out.below (hb))
  have BB' := Lib.hid (BB.out.trans ((hb).mono BB.out.size))
  clear BM
  have BM := BM'
  clear BM'
  clear BY
  have BY := BY'
  clear BY'
  clear R1
  have R1 := R1'
  clear R1'
  clear MM
  have MM := MM'
  clear MM'
  clear BB
  have BB := BB'
  clear BB'
  clear hb
  rw [hchk]
  obtain ⟨⟨m0, m1⟩, -⟩ := BM.out.cells2
  obtain ⟨⟨k0, k1, k2⟩, -⟩ := BY.out.cells3
  go_wp2_with fail
  clear m0 m1 k0 k1 k2
  have hltr1 := R1.out.lt
  refine (write_plain ya yb yc bP bV np nv _ k p hn P V ha q vp (M.view k) _ MM.out E1.out E2.out hpl hvl HP.out HV.out HHN.out (by omega)).mono ?_
  rintro e a1 ⟨bN, bM, bh, vp', tp, rfl, ⟨hl1, hl2, hl3⟩, hr, hr2, hh, hpj, hb⟩
  have BM' := Lib.hid (BM.out.below (hb))
  have BY' := Lib.hid (BY.out.below (hb))
  have R1' := Lib.hid (R1.out.below (hb))
  have MM' := Lib.hid (MM.out.below (hb))
  have BB' := Lib.hid (BB.out.trans ((hb).mono BB.out.size))
  clear BM
  have BM := BM'
  clear BM'
  clear BY
  have BY := BY'
  clear BY'
  clear R1
  have R1 := R1'
  clear R1'
  clear MM
  have MM := MM'
  clear MM'
  clear BB
  have BB := BB'
  clear BB'
  clear hb
  have RP := Lib.hid (hr)
  have RV := Lib.hid (hr2)
  have HN := Lib.hid (hh)
  have PS := Lib.hid (hpj)
  clear hr hr2 hh hpj
  obtain ⟨⟨m0, m1⟩, g0, g1⟩ := R1.out.cells2
  have F1 := (MM.out.only R1.out (by omega) (((Only.refl br1 a1).set 0 (.slice (some ⟨bN, 0, none⟩) np np)).set 1 (.slice (some ⟨bM, 0, none⟩) nv nv))).setV (i := k) (RV.out.only (by omega) (((Only.refl br1 a1).set 0 (.slice (some ⟨bN, 0, none⟩) np np)).set 1 (.slice (some ⟨bM, 0, none⟩) nv nv))) (PS.out.only R1.out (((Only.refl br1 a1).set 0 (.slice (some ⟨bN, 0, none⟩) np np)).set 1 (.slice (some ⟨bM, 0, none⟩) nv nv)))
  have F6 := RP.out.only (by omega) (((Only.refl br1 a1).set 0 (.slice (some ⟨bN, 0, none⟩) np np)).set 1 (.slice (some ⟨bM, 0, none⟩) nv nv))
  have F7 := HN.out.only R1.out (fun a n c e => by cases e; simp only; omega) (((Only.refl br1 a1).set 0 (.slice (some ⟨bN, 0, none⟩) np np)).set 1 (.slice (some ⟨bM, 0, none⟩) nv nv))
  have F2 := (BB.out.put br1 (by omega) 0 (.slice (some ⟨bN, 0, none⟩) np np)).put br1 (by omega) 1 (.slice (some ⟨bM, 0, none⟩) nv nv)
  obtain ⟨⟨c0, c1⟩, -⟩ := ((R1.out.set 0 (.slice (some ⟨bN, 0, none⟩) np np)).set 1 (.slice (some ⟨bM, 0, none⟩) nv nv)).cells2
  go_wp2
  refine bodyPost_ret (v := .tuple #[.agg #[.slice (some ⟨bN, 0, none⟩) np np, .slice (some ⟨bM, 0, none⟩) nv nv], .int .i64 0]) (by simp [results, Try.f24, go_sem, c0, c1]) rfl ?_
  refine ⟨_, _, rfl, ?_, F2⟩
  rw [HRES.out hn hql.symm]
  exact (F1.setP (i := p) F6 F7).toD (M := ⟨_, _⟩) (by rw [List.map_set, HM1.out, ← HQM.out]; simp) (by rw [List.map_set, HM2.out]) (by rw [List.length_set, E1.out]) (by rw [List.length_set, E2.out]) (.inr (by omega)) (.inr (by omega)) (fun x hx a n c e => by
    rcases List.mem_or_eq_of_mem_set hx with hx | rfl
    · exact .inl (HD.out.2.2 x hx a n c e)
    · cases e; exact .inr (by simp only; omega))
end Go.Proofs.Ytbaljoehgdhhhaa
