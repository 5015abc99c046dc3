/- The walk through ReclaimBounds. -/
import Derived.Test.YtknnnjnnphdipaaRcBndMath
namespace Go.Proofs.Ytknnnjnnphdipaa
open Go.ChangeShapes Go.WideShapes Go.ChangeAt Go.RowKit Go.Maps
theorem Inc.nd {l : List Int} (h : Inc l) : l.Nodup := h.imp (fun h => by omega)
theorem okl_nil : OkL [] := fun x h => by cases h
theorem okl_zero : OkL [0, 0] := by unfold OkL I64; simp
set_option maxRecDepth 100000 in
set_option maxHeartbeats 6400000 in
theorem bounds_walk (v u z : Value) (l : List It) (A P : List Int) (w : World) (hv : PS w v l) (hu : IS w u A) (hz : IS w z P) (oa : OkL A) (op : OkL P) : Calls Try.prog 6 #[v, u, z] w (Good w) := by
  have HV := Lib.hid hv
  have HU := Lib.hid hu
  have HZ := Lib.hid hz
  have OA := Lib.hid oa
  have OP := Lib.hid op
  obtain ⟨a1, c1, rfl⟩ := hv.form
  obtain ⟨a2, c2, rfl⟩ := hu.form
  obtain ⟨a3, c3, rfl⟩ := hz.form
  clear hv hu hz oa op
  obtain ⟨n1, hn1⟩ : ∃ n, l.length = n := ⟨_, rfl⟩
  obtain ⟨n2, hn2⟩ : ∃ n, A.length = n := ⟨_, rfl⟩
  obtain ⟨n3, hn3⟩ : ∃ n, P.length = n := ⟨_, rfl⟩
  rw [hn1] at HV ⊢
  rw [hn2] at HU ⊢
  rw [hn3] at HZ ⊢
  have H1 := Lib.hid hn1
  have H2 := Lib.hid hn2
  have H3 := Lib.hid hn3
  clear hn1 hn2 hn3
  have ZS := Lib.hid zBag_size
  go_enter Try.func6, Try.ntmps6
  go_wp2_with fail
  refine (few_any _ _ _ l A P w HV.out HU.out HZ.out).mono ?_
  rintro e w' ⟨r, rfl, rfl, hr⟩
  rw [H1.out, H2.out, H3.out] at hr
  cases r with
  | false =>
    clear hr
    go_wp2_with fail
    refine (awake_any w).mono ?_
    rintro e w1 ⟨rfl, hb⟩
    have BB := Lib.hid hb
    clear hb
    go_wp2_with fail
    go_ret
    exact ⟨rfl, BB.out⟩
  | true =>
    obtain ⟨l1, l2, l3⟩ := hr rfl
    clear hr
    have zv := zero29
    go_wp2_with fail
    refine (bag_any _ l w HV.out (by rw [H1.out]; omega)).mono ?_
    rintro e w1 ⟨c, rv, cv, rfl, kv, kr, kb⟩
    have HG := Lib.hid (bagL_good l)
    obtain ⟨L, hL⟩ : ∃ L, bagL l = L := ⟨_, rfl⟩
    rw [hL] at kv kr HG
    clear hL
    have hL64 := kv.len
    have V1 := Lib.hid kv
    have CS := Lib.hid kv.size
    have R1 := Lib.hid kr
    have BW := Lib.hid kb
    obtain ⟨ra, rc, rfl⟩ := kr.form
    clear kv kr kb
    go_upto_region 4 with (first
      | ((with_reducible refine wpList_storeBag w1.heap.size c zBag 29 ?_ ?_ ?_ ?_ ?_ ?_ ?_); rfl; rfl; exact Box.new w1 zBag 29 rfl; exact ZS.out; exact CS.out; exact V1.out.one)
      | fail)
    obtain ⟨q, hq⟩ : ∃ x, w1.heap.size = x := ⟨_, rfl⟩
    obtain ⟨W, hW⟩ : ∃ W, (w1.alloc (.cells zBag 29)).setRow q c = W := ⟨_, rfl⟩
    have B1 : Hid (Box W q c 29) := Lib.hid (by rw [← hW]; exact Box.rowSame (Box.new w1 zBag 29 hq.symm))
    have BW1 : Hid (Below w.heap.size w W) := Lib.hid (by rw [← hW]; exact below_row (BW.out.alloc BW.out.size _) (by have := BW.out.size; omega) _)
    have R2 : Hid (PS W (.slice ra L.length rc) L) := Lib.hid (by rw [← hW]; exact Row3.ps (own_row (R1.out.below (below1 w1 (.cells zBag 29))) (Box.new w1 zBag 29 hq.symm) (by decide)))
    rw [hq, hW]
    clear hW hq BW R1
    have U1 := Lib.hid (HU.out.below BW1.out)
    have Z1 := Lib.hid (HZ.out.below BW1.out)
    clear HU HZ HV
    go_wp2_with (first
      | ((with_reducible refine wpList_loadBag q c 29 ?_ ?_ ?_ ?_); rfl; exact B1.out; exact CS.out)
      | fail)
    refine (items_any c L W V1.out).mono ?_
    rintro e w2 ⟨iv, rfl, hr, hb⟩
    obtain ⟨ia, ic, rfl⟩ := hr.form
    have P2 := Lib.hid hr.ps
    have B2 := Lib.hid (B1.out.below hb)
    have BW2 := Lib.hid (BW1.out.trans (hb.mono BW1.out.size))
    have R3 := Lib.hid (R2.out.below hb)
    have U2 := Lib.hid (U1.out.below hb)
    have Z2 := Lib.hid (Z1.out.below hb)
    clear hb hr U1 Z1 B1 BW1 R2
    go_wp2_with fail
    refine (bound_any _ _ _ A P L w2 U2.out Z2.out P2.out (by rw [H2.out]; omega) (by rw [H3.out]; omega) (by omega) OA.out OP.out (fun x hx => by have := HG.out.2 x hx; unfold I64; omega)).mono ?_
    rintro e w3 ⟨n, rfl, hn, hn2, hb⟩
    have BN := Lib.hid hn
    have B3 := Lib.hid (B2.out.below hb)
    have BW3 := Lib.hid (BW2.out.trans (hb.mono BW2.out.size))
    have R4 := Lib.hid (R3.out.below hb)
    have U3 := Lib.hid (U2.out.below hb)
    have Z3 := Lib.hid (Z2.out.below hb)
    clear hb hn U2 Z2 B2 BW2 R3 P2
    have KL := Lib.hid (kept_le BN.out HG.out.1)
    clear zv
    have zv := zero29
    go_wp2_with (first
      | ((with_reducible refine wpList_loadBag q c 29 ?_ ?_ ?_ ?_); rfl; exact B3.out; exact CS.out)
      | fail)
    refine (sweep_any c L _ _ A P w3 V1.out HG.out U3.out Z3.out (by rw [H2.out]; omega) (by rw [H3.out]; omega) OP.out).mono ?_
    rintro e w4 ⟨cd, fv, F, rfl, k1, k2, k3, k4, hb⟩
    obtain ⟨K, hK⟩ : ∃ K, L.filter (protB A P) = K := ⟨_, rfl⟩
    rw [hK] at k1 KL
    clear hK
    have V2 := Lib.hid k1
    have CS2 := Lib.hid k1.size
    have B4 := Lib.hid (B3.out.below hb)
    have BW4 := Lib.hid (BW3.out.trans (hb.mono BW3.out.size))
    have R5 := Lib.hid (R4.out.below hb)
    have U4 := Lib.hid (U3.out.below hb)
    have Z4 := Lib.hid (Z3.out.below hb)
    clear k1 k2 k3 k4 hb U3 Z3 B3 BW3 R4
    go_upto_region 6 with (first
      | ((with_reducible refine wpList_storeBag w4.heap.size cd zBag 29 ?_ ?_ ?_ ?_ ?_ ?_ ?_); rfl; rfl; exact Box.new w4 zBag 29 rfl; exact ZS.out; exact CS2.out; exact V2.out.one)
      | fail)
    obtain ⟨r, hr⟩ : ∃ x, w4.heap.size = x := ⟨_, rfl⟩
    obtain ⟨X, hX⟩ : ∃ W, (w4.alloc (.cells zBag 29)).setRow r cd = W := ⟨_, rfl⟩
    have lt4 := B4.out.lt
    have B5 : Hid (Box X q c 29) := Lib.hid (by rw [← hX]; exact (B4.out.alloc _).row (by omega))
    have K5 : Hid (Box X r cd 29) := Lib.hid (by rw [← hX]; exact Box.rowSame (Box.new w4 zBag 29 hr.symm))
    have BX : Hid (Below w4.heap.size w4 X) := Lib.hid (by rw [← hX]; exact below_row (below1 w4 _) (by omega) _)
    have BW5 := Lib.hid (BW4.out.trans (BX.out.mono BW4.out.size))
    have R6 := Lib.hid (R5.out.below BX.out)
    have U5 := Lib.hid (U4.out.below BX.out)
    have Z5 := Lib.hid (Z4.out.below BX.out)
    rw [hr, hX]
    clear hr hX BW4 B4 lt4 R5 U4 Z4 BX zv
    have zv := zero29
    have I5 := Lib.hid (IS.ofBox (L := [0, 0]) (n := 2) (cap := 2) (Box.new X #[.int .i64 0, .int .i64 0] 2 rfl) rfl rfl (Nat.le_refl _))
    have BX1 := Lib.hid (below1 X (.cells #[.int .i64 0, .int .i64 0] 2))
    go_wp2_with (first
      | ((with_reducible refine wpList_loadBag q c 29 ?_ ?_ ?_ ?_); rfl; exact B5.out; exact CS.out)
      | fail)
    refine (sweep_any c L _ _ [0, 0] [] _ V1.out HG.out I5.out (IS.nil _ _ _) (by simp) (by simp) okl_nil).mono ?_
    rintro e w5 ⟨ce, gv, G, rfl, k1, k2, k3, k4, hb⟩
    have GL := Lib.hid (all_free HG.out.1 k3.nd k4)
    rw [none_prot] at k1
    have V3 := Lib.hid k1
    have CS3 := Lib.hid k1.size
    obtain ⟨ga, gc, rfl, -⟩ := k2.form
    rw [GL.out]
    have BX2 := Lib.hid (BX1.out.trans (hb.mono BX1.out.size))
    have B6 := Lib.hid (B5.out.below BX2.out)
    have K6 := Lib.hid (K5.out.below BX2.out)
    have BW6 := Lib.hid (BW5.out.trans (BX2.out.mono BW5.out.size))
    have R7 := Lib.hid (R6.out.below BX2.out)
    have U6 := Lib.hid (U5.out.below BX2.out)
    have Z6 := Lib.hid (Z5.out.below BX2.out)
    clear k1 k2 k3 k4 hb BX1 BX2 I5 B5 K5 BW5 R6 U5 Z5
    go_upto_region 7 with (first
      | ((with_reducible refine wpList_storeBag w5.heap.size ce zBag 29 ?_ ?_ ?_ ?_ ?_ ?_ ?_); rfl; rfl; exact Box.new w5 zBag 29 rfl; exact ZS.out; exact CS3.out; exact V3.out.one)
      | fail)
    obtain ⟨s, hs⟩ : ∃ x, w5.heap.size = x := ⟨_, rfl⟩
    obtain ⟨Y, hY⟩ : ∃ W, (w5.alloc (.cells zBag 29)).setRow s ce = W := ⟨_, rfl⟩
    have lt6 := B6.out.lt
    have lt7 := K6.out.lt
    have B7 : Hid (Box Y q c 29) := Lib.hid (by rw [← hY]; exact (B6.out.alloc _).row (by omega))
    have K7 : Hid (Box Y r cd 29) := Lib.hid (by rw [← hY]; exact (K6.out.alloc _).row (by omega))
    have M7 : Hid (Box Y s ce 29) := Lib.hid (by rw [← hY]; exact Box.rowSame (Box.new w5 zBag 29 hs.symm))
    have BY : Hid (Below w5.heap.size w5 Y) := Lib.hid (by rw [← hY]; exact below_row (below1 w5 _) (by omega) _)
    have BW7 := Lib.hid (BW6.out.trans (BY.out.mono BW6.out.size))
    have R8 := Lib.hid (R7.out.below BY.out)
    have U7 := Lib.hid (U6.out.below BY.out)
    have Z7 := Lib.hid (Z6.out.below BY.out)
    rw [hs, hY]
    clear hs hY BW6 B6 K6 lt6 lt7 R7 U6 Z6 BY zv
    go_wp2_with fail
    refine (awake_any Y).mono ?_
    rintro e w6 ⟨rfl, hb⟩
    have B8 := Lib.hid (B7.out.below hb)
    have K8 := Lib.hid (K7.out.below hb)
    have M8 := Lib.hid (M7.out.below hb)
    have BW8 := Lib.hid (BW7.out.trans (hb.mono BW7.out.size))
    have R9 := Lib.hid (R8.out.below hb)
    have U8 := Lib.hid (U7.out.below hb)
    have Z8 := Lib.hid (Z7.out.below hb)
    clear hb B7 K7 M7 BW7 R8 U7 Z7
    go_wp2_with fail
    refine (rbound_any _ _ _ A P L w6 U8.out Z8.out R9.out (by rw [H2.out]; omega) (by rw [H3.out]; omega) (by omega) (fun x hx => by have := HG.out.2 x hx; omega)).mono ?_
    rintro e w7 ⟨n', rfl, hn', -, hb⟩
    obtain rfl := hn'.uniq BN.out
    have B9 := Lib.hid (B8.out.below hb)
    have K9 := Lib.hid (K8.out.below hb)
    have M9 := Lib.hid (M8.out.below hb)
    have BW9 := Lib.hid (BW8.out.trans (hb.mono BW8.out.size))
    clear hb hn' B8 K8 M8 BW8 R9 U8 Z8
    go_wp2_with (first
      | ((with_reducible refine wpList_loadBagG r cd 29 ?_ ?_ ?_ ?_ ?_); rfl; rfl; exact K9.out; exact CS2.out)
      | fail)
    refine (len_any cd K w7 V2.out).mono ?_
    rintro e w8 ⟨rfl, hb⟩
    have BA := Lib.hid (B9.out.below hb)
    have MA := Lib.hid (M9.out.below hb)
    have BWA := Lib.hid (BW9.out.trans (hb.mono BW9.out.size))
    have kl := KL.out
    clear hb B9 K9 M9 BW9
    go_wp2_with (first
      | ((with_reducible refine wpList_loadBagG s ce 29 ?_ ?_ ?_ ?_ ?_); rfl; rfl; exact MA.out; exact CS3.out)
      | fail)
    refine (len_any ce [] w8 V3.out).mono ?_
    rintro e w9 ⟨rfl, hb⟩
    have BB := Lib.hid (BA.out.below hb)
    have BWB := Lib.hid (BWA.out.trans (hb.mono BWA.out.size))
    clear hb BA MA BWA
    go_wp2_with (first
      | ((with_reducible refine wpList_loadBagG q c 29 ?_ ?_ ?_ ?_ ?_); rfl; rfl; exact BB.out; exact CS.out)
      | fail)
    refine (len_any c L w9 V1.out).mono ?_
    rintro e w10 ⟨rfl, hb⟩
    have BWC := Lib.hid (BWB.out.trans (hb.mono BWB.out.size))
    clear hb BB BWB
    go_wp2_with fail
    go_ret
    exact ⟨rfl, BWC.out⟩
end Go.Proofs.Ytknnnjnnphdipaa
