/- Statement SchedDrawn: the walk through the law for every input. -/
import Derived.Test.YtpgcnejofnhhfaaDoorDrawnPlain
namespace Go.Proofs.YtpgcnejofnhhfaaDoor.schedDrawn
open Go.ChangeShapes Go.WideShapes Go.ChangeAt Go.RowKit Go.Shelf Go.Maps
open Go.Proofs.YtpgcnejofnhhfaaDoor.schedDraws (In DBox)
def Good (w : World) (e : Ending) (w' : World) : Prop := e = .returned (.bool true) ∧ Below w.heap.size w w'

set_option maxRecDepth 100000 in
set_option maxHeartbeats 800000 in
theorem walk_no0 (s t n c : Int) (w : World) (hg : Gl w)  (h0 : t < 1) : Calls Tryd.prog 6 #[.agg #[.int .u64 s, .int .i64 t, .int .i64 n, .int .i64 c]] w (Good w) := by
  have I := Lib.hid (In.new s t n c hg)
  clear hg
  obtain ⟨k0, k1, k2, k3⟩ := I.out.x.cells
  go_enter Tryd.func6, Tryd.ntmps6
  go_wp2_with fail
  refine (awake_any _ I.out.g).mono ?_
  rintro e w2 ⟨rfl, hb⟩
  replace I := Lib.hid (I.out.below hb)
  clear hb k0 k1 k2 k3
  go_wp2_with fail
  go_ret
  exact ⟨rfl, I.out.b⟩

set_option maxRecDepth 100000 in
set_option maxHeartbeats 800000 in
theorem walk_no1 (s t n c : Int) (w : World) (hg : Gl w) (h0 : ¬ t < 1) (h1 : 8 < t) : Calls Tryd.prog 6 #[.agg #[.int .u64 s, .int .i64 t, .int .i64 n, .int .i64 c]] w (Good w) := by
  have I := Lib.hid (In.new s t n c hg)
  clear hg
  obtain ⟨k0, k1, k2, k3⟩ := I.out.x.cells
  go_enter Tryd.func6, Tryd.ntmps6
  go_wp2_with fail
  refine (awake_any _ I.out.g).mono ?_
  rintro e w2 ⟨rfl, hb⟩
  replace I := Lib.hid (I.out.below hb)
  clear hb k0 k1 k2 k3
  go_wp2_with fail
  go_ret
  exact ⟨rfl, I.out.b⟩

set_option maxRecDepth 100000 in
set_option maxHeartbeats 800000 in
theorem walk_no2 (s t n c : Int) (w : World) (hg : Gl w) (h0 : ¬ t < 1) (h1 : ¬ 8 < t) (h2 : n < 0) : Calls Tryd.prog 6 #[.agg #[.int .u64 s, .int .i64 t, .int .i64 n, .int .i64 c]] w (Good w) := by
  have I := Lib.hid (In.new s t n c hg)
  clear hg
  obtain ⟨k0, k1, k2, k3⟩ := I.out.x.cells
  go_enter Tryd.func6, Tryd.ntmps6
  go_wp2_with fail
  refine (awake_any _ I.out.g).mono ?_
  rintro e w2 ⟨rfl, hb⟩
  replace I := Lib.hid (I.out.below hb)
  clear hb k0 k1 k2 k3
  go_wp2_with fail
  go_ret
  exact ⟨rfl, I.out.b⟩

set_option maxRecDepth 100000 in
set_option maxHeartbeats 800000 in
theorem walk_no3 (s t n c : Int) (w : World) (hg : Gl w) (h0 : ¬ t < 1) (h1 : ¬ 8 < t) (h2 : ¬ n < 0) (h3 : 1000 < n) : Calls Tryd.prog 6 #[.agg #[.int .u64 s, .int .i64 t, .int .i64 n, .int .i64 c]] w (Good w) := by
  have I := Lib.hid (In.new s t n c hg)
  clear hg
  obtain ⟨k0, k1, k2, k3⟩ := I.out.x.cells
  go_enter Tryd.func6, Tryd.ntmps6
  go_wp2_with fail
  refine (awake_any _ I.out.g).mono ?_
  rintro e w2 ⟨rfl, hb⟩
  replace I := Lib.hid (I.out.below hb)
  clear hb k0 k1 k2 k3
  go_wp2_with fail
  go_ret
  exact ⟨rfl, I.out.b⟩

set_option maxRecDepth 100000 in
set_option maxHeartbeats 800000 in
theorem walk_no4 (s t n c : Int) (w : World) (hg : Gl w) (h0 : ¬ t < 1) (h1 : ¬ 8 < t) (h2 : ¬ n < 0) (h3 : ¬ 1000 < n) (h4 : c < 0) : Calls Tryd.prog 6 #[.agg #[.int .u64 s, .int .i64 t, .int .i64 n, .int .i64 c]] w (Good w) := by
  have I := Lib.hid (In.new s t n c hg)
  clear hg
  obtain ⟨k0, k1, k2, k3⟩ := I.out.x.cells
  go_enter Tryd.func6, Tryd.ntmps6
  go_wp2_with fail
  refine (awake_any _ I.out.g).mono ?_
  rintro e w2 ⟨rfl, hb⟩
  replace I := Lib.hid (I.out.below hb)
  clear hb k0 k1 k2 k3
  go_wp2_with fail
  go_ret
  exact ⟨rfl, I.out.b⟩

set_option maxRecDepth 100000 in
set_option maxHeartbeats 800000 in
theorem walk_no5 (s t n c : Int) (w : World) (hg : Gl w) (h0 : ¬ t < 1) (h1 : ¬ 8 < t) (h2 : ¬ n < 0) (h3 : ¬ 1000 < n) (h4 : ¬ c < 0) (h5 : 64 < c) : Calls Tryd.prog 6 #[.agg #[.int .u64 s, .int .i64 t, .int .i64 n, .int .i64 c]] w (Good w) := by
  have I := Lib.hid (In.new s t n c hg)
  clear hg
  obtain ⟨k0, k1, k2, k3⟩ := I.out.x.cells
  go_enter Tryd.func6, Tryd.ntmps6
  go_wp2_with fail
  refine (awake_any _ I.out.g).mono ?_
  rintro e w2 ⟨rfl, hb⟩
  replace I := Lib.hid (I.out.below hb)
  clear hb k0 k1 k2 k3
  go_wp2_with fail
  go_ret
  exact ⟨rfl, I.out.b⟩

set_option maxRecDepth 100000 in
set_option maxHeartbeats 3200000 in
theorem walk_ok (s : Int) (T n C : Nat) (w : World) (hg : Gl w) (hT : Tab w) (hs : U64 s) (t1 : 1 ≤ T) (t8 : T ≤ 8) (hn : n ≤ 1000) (c6 : C ≤ 64) : Calls Tryd.prog 6 #[.agg #[.int .u64 s, .int .i64 T, .int .i64 n, .int .i64 C]] w (Good w) := by
  obtain ⟨L, hL⟩ : ∃ L, drawL s (T : Int) n (C : Int) = L := ⟨_, rfl⟩
  have hgap : (n : Int) / ((C : Int) + 1) = ((n / (C + 1) : Nat) : Int) := by rw [Int.natCast_ediv]; rfl
  have hfine : ∀ p ∈ L, Fine p := by rw [← hL]; exact draw_fine _ _ _ _ (by omega) (by omega) _
  have hsum : sumC L T = n := by rw [← hL]; exact draw_steps T _ _ _ t1 n
  have hcr0 := draw_cr (T : Int) (n / (C + 1)) C s n
  rw [← hgap] at hcr0
  have hLL : (drawGo (T : Int) ((n : Int) / ((C : Int) + 1)) (C : Int) s n).2 = L := hL
  rw [hLL] at hcr0
  obtain ⟨hcr1, hlen⟩ := hcr0
  have hcr : crL L ≤ C := by rw [hcr1]; split <;> omega
  have hcr2 : C < n → crL L = C := fun h => by
    have g1 : 1 ≤ n / (C + 1) := (Nat.le_div_iff_mul_le (by omega)).2 (by omega)
    rw [hcr1, if_neg (by omega)]
    have : C ≤ n / (n / (C + 1)) := (Nat.le_div_iff_mul_le (by omega)).2 (by
      have := Nat.div_mul_le_self n (C + 1)
      have h2 : C * (n / (C + 1)) ≤ (C + 1) * (n / (C + 1)) := Nat.mul_le_mul_right _ (by omega)
      rw [Nat.mul_comm (C + 1)] at h2
      omega)
    omega
  have hhead : 0 < L.length → (L.getD 0 zPk).1 = 0 := by rw [← hL]; exact draw_head _ _ _ _ _
  have hst : stopsL L = [] := fine_stops hfine
  have hpr : printL L = (textL L, 0) := by
    unfold printL
    rw [if_neg (by omega), if_pos (fine_bad hfine), if_neg]
    have := textL_le L (fine_ok hfine) L.length (Nat.le_refl _)
    rw [List.take_length] at this
    omega
  have HD := Lib.hid (fun W => draw19 s (T : Int) n (C : Int) W hs (by omega) (by omega) (by omega) (by omega) (by omega))
  unfold DrawP at HD
  rw [hL] at HD
  have HOK := Lib.hid (fine_ok hfine)
  have HSUM := Lib.hid hsum
  have HHEAD := Lib.hid hhead
  have HST := Lib.hid hst
  have HPR := Lib.hid hpr
  have HSP := Lib.hid (split_parts L)
  have HT := Lib.hid hT
  have HBIG := hg.big
  have I := Lib.hid (In.new s (T : Int) (n : Int) (C : Int) hg)
  have h0 : ¬ (T : Int) < 1 := by omega
  have h1 : ¬ (8 : Int) < T := by omega
  have h2 : ¬ (n : Int) < 0 := by omega
  have h3 : ¬ (1000 : Int) < n := by omega
  have h4 : ¬ (C : Int) < 0 := by omega
  have h5 : ¬ (64 : Int) < C := by omega
  have HLEN := Lib.hid hlen
  have HCR2 := Lib.hid hcr2
  have HCR := Lib.hid hcr
  have hmb : L.length ≤ 1064 := by omega
  clear hL hLL hgap hfine hsum hcr1 hhead hst hpr hg hT hs hlen hcr2 hcr
  obtain ⟨m, hm⟩ : ∃ m, L.length = m := ⟨_, rfl⟩
  rw [hm] at hmb HLEN HHEAD
  obtain ⟨k0, k1, k2, k3⟩ := I.out.x.cells
  go_enter Tryd.func6, Tryd.ntmps6
  go_wp2_with fail
  clear k0 k1 k2 k3
  generalize w.alloc (.cells #[.int .u64 s, .int .i64 (T : Int), .int .i64 (n : Int), .int .i64 (C : Int)] 43) = W0 at *
  obtain ⟨b, hb0⟩ : ∃ b, w.heap.size = b := ⟨_, rfl⟩
  have HW := Lib.hid hb0
  rw [hb0] at I HBIG ⊢
  clear hb0
  refine (HD.out W0).mono ?_
  rintro e w1 ⟨v, rfl, hr, hb⟩
  have PP := Lib.hid hr.ps
  replace I := Lib.hid (I.out.below hb)
  clear hr hb HD
  obtain ⟨a, cap, hv, -⟩ := PP.out
  subst hv
  rw [hm] at PP ⊢
  have HM := Lib.hid hm
  clear hm
  go_wp2_with fail
  go_loopw [4, 5] (fun sv tv wr => ∃ j : Nat, j ≤ T ∧ tv = .int .i64 ((j : Int) + 1) ∧ sv = .int .i64 (sumC L j) ∧ PS wr (.slice a m cap) L ∧ In w b s (T : Int) (n : Int) (C : Int) wr) (fun _ tv _ => T + 1 - (intOf tv).toNat)
  case atStart => exact ⟨0, by omega, rfl, rfl, PP.out, I.out⟩
  case round =>
    obtain ⟨j, hj, rfl, rfl, hp, hi⟩ := hrel
    have P2 := Lib.hid hp
    have I2 := Lib.hid hi
    clear hp hi
    obtain ⟨k0, k1, k2, k3⟩ := I2.out.x.cells
    have hsl := sumC_le L j
    rw [HM.out] at hsl
    have hsl2 : sumC L j ≤ 10000 := Nat.le_trans hsl (Nat.le_trans (Nat.mul_le_mul hj (Nat.le_refl _)) (Nat.le_trans (Nat.mul_le_mul t8 (Nat.le_refl _)) (by omega)))
    clear hsl
    have hcl := countL_le ((j : Int) + 1) L
    rw [HM.out] at hcl
    by_cases hlt : j < T
    · have hle : ((j : Int) + 1) ≤ T := by omega
      go_wp2_with fail
      clear k0 k1 k2 k3
      refine (count_any ((j : Int) + 1) _ L _ (by rw [HM.out]; omega) P2.out).mono ?_
      rintro e w3 ⟨rfl, hb⟩
      replace P2 := Lib.hid (P2.out.below hb)
      replace I2 := Lib.hid (I2.out.below hb)
      clear hb
      go_wp2_with fail
      go_roundw
      case rel => exact ⟨j + 1, by omega, by go_num, by first | rfl | (simp only [sumC]; congr 1) | (simp only [sumC]; go_num), P2.out, I2.out⟩
      case measure => simp [intOf]; omega
    · obtain rfl : j = T := by omega
      have hle : ¬ ((j : Int) + 1) ≤ j := by omega
      rw [HSUM.out]
      go_wp2_with fail
      clear k0 k1 k2 k3
      refine (parts_any _ L _ (by rw [HM.out]; omega) P2.out).mono ?_
      rintro e w3 ⟨pv, dv, cv, rfl, hparts, hb⟩
      obtain ⟨pg, pcap, hpv⟩ := ownsRow_succ hparts.r
      subst hpv
      have hdl := hparts.l.trans HSP.out
      replace P2 := Lib.hid (P2.out.below hb)
      replace I2 := Lib.hid (I2.out.below hb)
      clear hb hparts
      rw [hdl]
      clear hdl
      obtain ⟨k0, k1, k2, k3⟩ := I2.out.x.cells
      generalize crL L = cr at *
      have hcr := HCR.out
      have hml := HLEN.out
      have q1 : ¬ ((C : Int) + 1) < ((cr : Int) + 1) := by omega
      have q2 : ((m : Int) != (n : Int) + ((cr : Int) + 1) - 1) = false := by rw [bne_eq_false_iff_eq]; omega
      have q3 : ((n : Int) != n) = false := by simp
      clear hml hcr
      by_cases hnc : C < n
      · have hnc2 : (C : Int) < n := by omega
        have q4 : ((cr : Int) + 1 != (C : Int) + 1) = false := by rw [bne_eq_false_iff_eq]; have := HCR2.out hnc; omega
        rcases Nat.eq_zero_or_pos m with hm0 | hm0
        · have z1 : ¬ (0 : Int) < (m : Int) := by omega
          clear hm0
          go_wp2_with fail
          refine (stops_any _ L _ (by first | omega | (rw [HM.out]; omega)) HOK.out P2.out).mono ?_
          rintro e w4 ⟨u, rfl, hs, hb⟩
          rw [HST.out] at hs
          obtain ⟨ua, uc, huv, -⟩ := hs
          subst huv
          simp only [List.length_nil]
          replace P2 := Lib.hid (P2.out.below hb)
          replace I2 := Lib.hid (I2.out.below hb)
          clear hb k0 k1 k2 k3
          go_wp2_with fail
          refine (print_any _ L _ P2.out HOK.out (by first | omega | (rw [HM.out]; omega)) I2.out.g (HT.out.below I2.out.b (by omega))).mono ?_
          rintro e w5 ⟨he, hb⟩
          rw [HPR.out] at he
          simp only at he
          subst he
          replace I2 := Lib.hid (I2.out.below hb)
          clear hb
          go_wp2_with fail
          refine (awake_any _ I2.out.g).mono ?_
          rintro e w6 ⟨rfl, hb⟩
          replace I2 := Lib.hid (I2.out.below hb)
          clear hb
          go_wp2_with fail
          go_ret
          exact ⟨rfl, by rw [HW.out]; exact I2.out.b⟩
        · have z1 : (0 : Int) < (m : Int) := by omega
          obtain ⟨a9, cap9, hv9, h9 | ⟨b9, of9, ha9, hb9, hc9⟩⟩ := P2.out
          · have := HM.out; rw [h9] at this; simp at this; omega
          cases hv9
          subst ha9
          obtain ⟨d0, -, -⟩ := hc9 0 (by rw [HM.out]; exact hm0)
          rw [HHEAD.out hm0] at d0
          simp only [Nat.zero_mul, Nat.add_zero] at d0
          clear hc9
          go_wp2_with fail
          refine (stops_any _ L _ (by first | omega | (rw [HM.out]; omega)) HOK.out P2.out).mono ?_
          rintro e w4 ⟨u, rfl, hs, hb⟩
          rw [HST.out] at hs
          obtain ⟨ua, uc, huv, -⟩ := hs
          subst huv
          simp only [List.length_nil]
          replace P2 := Lib.hid (P2.out.below hb)
          replace I2 := Lib.hid (I2.out.below hb)
          clear hb k0 k1 k2 k3
          go_wp2_with fail
          refine (print_any _ L _ P2.out HOK.out (by first | omega | (rw [HM.out]; omega)) I2.out.g (HT.out.below I2.out.b (by omega))).mono ?_
          rintro e w5 ⟨he, hb⟩
          rw [HPR.out] at he
          simp only at he
          subst he
          replace I2 := Lib.hid (I2.out.below hb)
          clear hb
          go_wp2_with fail
          refine (awake_any _ I2.out.g).mono ?_
          rintro e w6 ⟨rfl, hb⟩
          replace I2 := Lib.hid (I2.out.below hb)
          clear hb
          go_wp2_with fail
          go_ret
          exact ⟨rfl, by rw [HW.out]; exact I2.out.b⟩
      · have hnc2 : ¬ (C : Int) < n := by omega
        rcases Nat.eq_zero_or_pos m with hm0 | hm0
        · have z1 : ¬ (0 : Int) < (m : Int) := by omega
          clear hm0
          go_wp2_with fail
          refine (stops_any _ L _ (by first | omega | (rw [HM.out]; omega)) HOK.out P2.out).mono ?_
          rintro e w4 ⟨u, rfl, hs, hb⟩
          rw [HST.out] at hs
          obtain ⟨ua, uc, huv, -⟩ := hs
          subst huv
          simp only [List.length_nil]
          replace P2 := Lib.hid (P2.out.below hb)
          replace I2 := Lib.hid (I2.out.below hb)
          clear hb k0 k1 k2 k3
          go_wp2_with fail
          refine (print_any _ L _ P2.out HOK.out (by first | omega | (rw [HM.out]; omega)) I2.out.g (HT.out.below I2.out.b (by omega))).mono ?_
          rintro e w5 ⟨he, hb⟩
          rw [HPR.out] at he
          simp only at he
          subst he
          replace I2 := Lib.hid (I2.out.below hb)
          clear hb
          go_wp2_with fail
          refine (awake_any _ I2.out.g).mono ?_
          rintro e w6 ⟨rfl, hb⟩
          replace I2 := Lib.hid (I2.out.below hb)
          clear hb
          go_wp2_with fail
          go_ret
          exact ⟨rfl, by rw [HW.out]; exact I2.out.b⟩
        · have z1 : (0 : Int) < (m : Int) := by omega
          obtain ⟨a9, cap9, hv9, h9 | ⟨b9, of9, ha9, hb9, hc9⟩⟩ := P2.out
          · have := HM.out; rw [h9] at this; simp at this; omega
          cases hv9
          subst ha9
          obtain ⟨d0, -, -⟩ := hc9 0 (by rw [HM.out]; exact hm0)
          rw [HHEAD.out hm0] at d0
          simp only [Nat.zero_mul, Nat.add_zero] at d0
          clear hc9
          go_wp2_with fail
          refine (stops_any _ L _ (by first | omega | (rw [HM.out]; omega)) HOK.out P2.out).mono ?_
          rintro e w4 ⟨u, rfl, hs, hb⟩
          rw [HST.out] at hs
          obtain ⟨ua, uc, huv, -⟩ := hs
          subst huv
          simp only [List.length_nil]
          replace P2 := Lib.hid (P2.out.below hb)
          replace I2 := Lib.hid (I2.out.below hb)
          clear hb k0 k1 k2 k3
          go_wp2_with fail
          refine (print_any _ L _ P2.out HOK.out (by first | omega | (rw [HM.out]; omega)) I2.out.g (HT.out.below I2.out.b (by omega))).mono ?_
          rintro e w5 ⟨he, hb⟩
          rw [HPR.out] at he
          simp only at he
          subst he
          replace I2 := Lib.hid (I2.out.below hb)
          clear hb
          go_wp2_with fail
          refine (awake_any _ I2.out.g).mono ?_
          rintro e w6 ⟨rfl, hb⟩
          replace I2 := Lib.hid (I2.out.below hb)
          clear hb
          go_wp2_with fail
          go_ret
          exact ⟨rfl, by rw [HW.out]; exact I2.out.b⟩
theorem walk (s t n c : Int) (w : World) (hs0 : 0 ≤ s) (hs1 : s < 18446744073709551616) (hg : Gl w) (hT : Tab w) : Calls Tryd.prog 6 #[.agg #[.int .u64 s, .int .i64 t, .int .i64 n, .int .i64 c]] w (Good w) := by
  by_cases h0 : t < 1
  · exact walk_no0 s t n c w hg h0
  by_cases h1 : 8 < t
  · exact walk_no1 s t n c w hg h0 h1
  by_cases h2 : n < 0
  · exact walk_no2 s t n c w hg h0 h1 h2
  by_cases h3 : 1000 < n
  · exact walk_no3 s t n c w hg h0 h1 h2 h3
  by_cases h4 : c < 0
  · exact walk_no4 s t n c w hg h0 h1 h2 h3 h4
  by_cases h5 : 64 < c
  · exact walk_no5 s t n c w hg h0 h1 h2 h3 h4 h5
  obtain ⟨T, rfl⟩ : ∃ m : Nat, t = m := ⟨t.toNat, by omega⟩
  obtain ⟨N, rfl⟩ : ∃ m : Nat, n = m := ⟨n.toNat, by omega⟩
  obtain ⟨C, rfl⟩ : ∃ m : Nat, c = m := ⟨c.toNat, by omega⟩
  exact walk_ok s T N C w hg hT ⟨hs0, hs1⟩ (by omega) (by omega) (by omega) (by omega)
end Go.Proofs.YtpgcnejofnhhfaaDoor.schedDrawn
