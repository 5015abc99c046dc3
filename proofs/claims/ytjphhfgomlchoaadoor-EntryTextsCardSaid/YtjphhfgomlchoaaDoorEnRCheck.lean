/- The reference's Check. -/
import Derived.Test.YtjphhfgomlchoaaDoorEnAwake
namespace Go.Proofs.YtjphhfgomlchoaaDoor
open Go.ChangeShapes Go.WideShapes Go.ChangeAt Go.RowKit Go.Maps
theorem take_at {L : List En} {i k : Nat} (hk : k ≤ L.length) (hi : i < k) : (L.take k)[i]! = L[i]! := by
  rw [getElem!_pos (L.take k) i (by simp; omega), getElem!_pos L i (by omega)]
  simp
set_option maxRecDepth 100000 in
set_option maxHeartbeats 6400000 in
theorem rcheck_any (v : Value) (L : List En) (w : World) (hv : ES w v L) (hl : L.length ≤ 1000) : Calls Tryd.prog 12 #[v] w fun e w' => e = .returned (.int .i64 (chkL L)) ∧ Below w.heap.size w w' := by
  have HV := Lib.hid hv
  obtain ⟨a1, cp, rfl, hcap⟩ := hv.form
  clear hv
  obtain ⟨n, hn⟩ : ∃ n, L.length = n := ⟨_, rfl⟩
  rw [hn] at HV hl hcap ⊢
  have HN := Lib.hid hn
  clear hn
  obtain ⟨r, hr⟩ : ∃ r, chkL L = r := ⟨_, rfl⟩
  rw [hr]
  have HR := Lib.hid hr
  unfold chkL at HR
  rw [HN.out] at HR
  clear hr
  by_cases h0 : n = 0
  · subst h0
    go_enter Tryd.func12, Tryd.ntmps12
    go_wp2_with fail
    go_ret
    exact ⟨by rw [← HR.out]; rfl, Below.refl _ _⟩
  have h0' : ((n : Int) == 0) = false := by rw [beq_eq_false_iff_ne]; omega
  by_cases h1 : 32 < n
  · have h1' : (32 : Int) < n := by omega
    go_enter Tryd.func12, Tryd.ntmps12
    go_wp2_with fail
    go_ret
    exact ⟨by rw [← HR.out]; simp [h0, h1], Below.refl _ _⟩
  have h1' : ¬ (32 : Int) < n := by omega
  rw [if_neg h0, if_neg h1] at HR
  go_enter Tryd.func12, Tryd.ntmps12
  go_wp2_with fail
  clear h0 h0' h1'
  go_loopw [3] (fun iv wr => ∃ k : Nat, k ≤ n ∧ iv = .int .i64 k ∧ chkFrom (L.take k) (L.drop k) = r ∧ Below w.heap.size w wr) (fun iv _ => n - (intOf iv).toNat)
  case atStart => exact ⟨0, by omega, rfl, HR.out, Below.refl _ _⟩
  case round =>
    obtain ⟨k, hk, rfl, hch, hb⟩ := hrel
    have BB := Lib.hid hb
    have HC := Lib.hid hch
    clear hb hch
    by_cases hlt : k < n
    · obtain ⟨b, off, rfl, hbl, hln, hc⟩ := HV.out.addr hlt
      obtain ⟨c0, c1, c2, c3, c4, c5⟩ := en_cells hc (by rw [hln]; exact hlt)
      rw [← BB.out.cell (p := ⟨b, _, none⟩) hbl] at c0 c1 c2 c3 c4 c5
      rw [drop_cons L (by rw [HN.out]; exact hlt)] at HC
      have TS := Lib.hid (take_snoc L (k := k) (by rw [HN.out]; exact hlt))
      have hLk := HN.out
      clear hc hln
      obtain ⟨y, hy⟩ : ∃ y, L[k]! = y := ⟨_, rfl⟩
      rw [hy] at c0 c1 c2 c3 c4 c5 HC TS
      clear hy
      obtain ⟨y0, ⟨y1, y2, y3⟩, y4, y5⟩ := y
      simp only at c0 c1 c2 c3 c4 c5
      rw [chkFrom] at HC
      have CK := Lib.hid (show chk (y0, (y1, y2, y3), y4, y5) = if y0 < 0 ∨ 4096 ≤ y0 then 3 else if y3 ≠ 0 then 13 else if y5 = true ∧ y2 = 4294967295 then 9 else if y5 = false ∧ y4 ≠ y1 then 4 else 0 from rfl)
      go_upto_region 9 with fail
      have X := Lib.hid (Box.new wr #[.int .i64 y0, .int .i64 y1, .int .u32 y2, .int .u32 y3, .int .i64 y4, .bool y5] 48 rfl)
      replace BB := Lib.hid (BB.out.alloc BB.out.size (.cells #[.int .i64 y0, .int .i64 y1, .int .u32 y2, .int .u32 y3, .int .i64 y4, .bool y5] 48))
      generalize wr.alloc (.cells #[.int .i64 y0, .int .i64 y1, .int .u32 y2, .int .u32 y3, .int .i64 y4, .bool y5] 48) = W4 at *
      generalize wr.heap.size = p at *
      clear c0 c1 c2 c3 c4 c5
      have x0 := X.out.cell 0
      have x1 := X.out.cell 1
      have x2 := X.out.cell 2
      have x3 := X.out.cell 3
      have x4 := X.out.cell 4
      have x5 := X.out.cell 5
      simp at x0 x1 x2 x3 x4 x5
      by_cases g1 : y0 < 0
      · have HK : chk (y0, (y1, y2, y3), y4, y5) = 3 := by rw [CK.out, if_pos (Or.inl g1)]
        clear hLk
        rw [HK] at HC
        rw [if_pos (by simp)] at HC
        go_wp2_with fail
        go_ret
        exact ⟨by rw [← HC.out]; rfl, BB.out⟩
      by_cases g2 : 4096 ≤ y0
      · have HK : chk (y0, (y1, y2, y3), y4, y5) = 3 := by rw [CK.out, if_pos (Or.inr g2)]
        clear hLk
        rw [HK] at HC
        rw [if_pos (by simp)] at HC
        go_wp2_with fail
        go_ret
        exact ⟨by rw [← HC.out]; rfl, BB.out⟩
      rw [if_neg (by omega)] at CK
      by_cases g3 : y3 = 0
      · rw [if_neg (by simpa using g3)] at CK
        have g3' : (y3 != 0) = false := by rw [bne_eq_false_iff_eq]; exact g3
        have HG3 := Lib.hid g3
        clear g3
        cases y5 with
        | true =>
          by_cases g4 : y2 = 4294967295
          · have HK : chk (y0, (y1, y2, y3), y4, true) = 9 := by rw [CK.out, if_pos ⟨rfl, g4⟩]
            subst g4
            clear hLk
            rw [HK] at HC
            rw [if_pos (by simp)] at HC
            go_wp2_with fail
            go_ret
            exact ⟨by rw [← HC.out]; rfl, BB.out⟩
          · have HK : chk (y0, (y1, y2, y3), y4, true) = 0 := by rw [CK.out, if_neg (fun h => g4 h.2), if_neg (by simp)]
            have g4' : (y2 == 4294967295) = false := by rw [beq_eq_false_iff_ne]; exact g4
            clear g4
            rw [HK] at HC
            rw [if_neg (by simp)] at HC
            clear HK
            go_upto_region 18 with fail
            go_wp2_with fail
            obtain ⟨wo, rfl⟩ : ∃ z, z = W4 := ⟨_, rfl⟩
            go_loopw [5] (fun jv wr2 => ∃ j : Nat, j ≤ k ∧ jv = .int .i64 j ∧ (∀ i, i < j → (L[i]!).1 ≠ y0) ∧ Below wo.heap.size wo wr2) (fun jv _ => k - (intOf jv).toNat)
            case atStart => exact ⟨0, by omega, rfl, fun i hi => by omega, Below.refl _ _⟩
            case round =>
              obtain ⟨j, hj, rfl, hno, hb⟩ := hrel
              have NO := Lib.hid hno
              have BO := Lib.hid hb
              clear hb hno
              by_cases hjk : j < k
              · have hjn : j < n := by omega
                obtain ⟨b, off, e3, hbl, hln, hc⟩ := HV.out.addr hjn
                injection e3 with e3
                injection e3 with e3 e4
                subst e3 e4
                have BA := Lib.hid (BB.out.trans (BO.out.mono BB.out.size))
                have d0 := (en_cells hc (by rw [hln]; exact hjn)).1
                rw [← BA.out.cell (p := ⟨_, _, none⟩) hbl] at d0
                have w0 := (X.out.below BO.out).cell 0
                simp at w0
                clear hc hln BA
                obtain ⟨z, hz⟩ : ∃ z, (L[j]!).1 = z := ⟨_, rfl⟩
                rw [hz] at d0
                have HZ := Lib.hid hz
                clear hz
                by_cases hq : z = y0
                · have hq' : (z == y0) = true := by rw [beq_iff_eq]; exact hq
                  have HQ := Lib.hid hq
                  clear hq
                  rw [if_pos (by rw [fnd_yes (k := j) (by simp; omega) (by rw [take_at (by omega) hjk, HZ.out, HQ.out]) (fun i hi => by rw [take_at (by omega) (by omega)]; exact NO.out i hi)]; omega)] at HC
                  go_wp2
                  go_quiet (fail)
                  go_wp2
                  go_ret
                  exact ⟨by rw [← HC.out]; rfl, below_drewN (BB.out.trans (BO.out.mono BB.out.size)) _⟩
                · have hq' : (z == y0) = false := by rw [beq_eq_false_iff_ne]; exact hq
                  have HQ := Lib.hid hq
                  clear hq
                  go_wp2
                  go_quiet (fail)
                  go_wp2
                  go_roundw
                  case rel =>
                    refine ⟨j + 1, by omega, by go_num, fun i hi => ?_, below_drewN BO.out _⟩
                    by_cases e : i = j
                    · subst e; rw [HZ.out]; exact HQ.out
                    · exact NO.out i (by omega)
                  case measure => simp [intOf]; omega
              · obtain rfl : j = k := by omega
                rw [if_neg (by rw [fnd_no (fun i hi => by simp at hi; rw [take_at (by omega) (by omega)]; exact NO.out i (by omega))]; decide)] at HC
                go_wp2_with fail
                go_roundw
                case rel => exact ⟨j + 1, by omega, by go_num, by rw [TS.out]; exact HC.out, BB.out.trans (BO.out.mono BB.out.size)⟩
                case measure => simp [intOf]; omega
        | false =>
          by_cases g4 : y4 = y1
          · have HK : chk (y0, (y1, y2, y3), y4, false) = 0 := by rw [CK.out, if_neg (by simp), if_neg (fun h => h.2 g4)]
            have g4' : (y4 != y1) = false := by rw [bne_eq_false_iff_eq]; exact g4
            clear g4
            rw [HK] at HC
            rw [if_neg (by simp)] at HC
            clear HK
            go_upto_region 18 with fail
            go_wp2_with fail
            obtain ⟨wo, rfl⟩ : ∃ z, z = W4 := ⟨_, rfl⟩
            go_loopw [5] (fun jv wr2 => ∃ j : Nat, j ≤ k ∧ jv = .int .i64 j ∧ (∀ i, i < j → (L[i]!).1 ≠ y0) ∧ Below wo.heap.size wo wr2) (fun jv _ => k - (intOf jv).toNat)
            case atStart => exact ⟨0, by omega, rfl, fun i hi => by omega, Below.refl _ _⟩
            case round =>
              obtain ⟨j, hj, rfl, hno, hb⟩ := hrel
              have NO := Lib.hid hno
              have BO := Lib.hid hb
              clear hb hno
              by_cases hjk : j < k
              · have hjn : j < n := by omega
                obtain ⟨b, off, e3, hbl, hln, hc⟩ := HV.out.addr hjn
                injection e3 with e3
                injection e3 with e3 e4
                subst e3 e4
                have BA := Lib.hid (BB.out.trans (BO.out.mono BB.out.size))
                have d0 := (en_cells hc (by rw [hln]; exact hjn)).1
                rw [← BA.out.cell (p := ⟨_, _, none⟩) hbl] at d0
                have w0 := (X.out.below BO.out).cell 0
                simp at w0
                clear hc hln BA
                obtain ⟨z, hz⟩ : ∃ z, (L[j]!).1 = z := ⟨_, rfl⟩
                rw [hz] at d0
                have HZ := Lib.hid hz
                clear hz
                by_cases hq : z = y0
                · have hq' : (z == y0) = true := by rw [beq_iff_eq]; exact hq
                  have HQ := Lib.hid hq
                  clear hq
                  rw [if_pos (by rw [fnd_yes (k := j) (by simp; omega) (by rw [take_at (by omega) hjk, HZ.out, HQ.out]) (fun i hi => by rw [take_at (by omega) (by omega)]; exact NO.out i hi)]; omega)] at HC
                  go_wp2
                  go_quiet (fail)
                  go_wp2
                  go_ret
                  exact ⟨by rw [← HC.out]; rfl, below_drewN (BB.out.trans (BO.out.mono BB.out.size)) _⟩
                · have hq' : (z == y0) = false := by rw [beq_eq_false_iff_ne]; exact hq
                  have HQ := Lib.hid hq
                  clear hq
                  go_wp2
                  go_quiet (fail)
                  go_wp2
                  go_roundw
                  case rel =>
                    refine ⟨j + 1, by omega, by go_num, fun i hi => ?_, below_drewN BO.out _⟩
                    by_cases e : i = j
                    · subst e; rw [HZ.out]; exact HQ.out
                    · exact NO.out i (by omega)
                  case measure => simp [intOf]; omega
              · obtain rfl : j = k := by omega
                rw [if_neg (by rw [fnd_no (fun i hi => by simp at hi; rw [take_at (by omega) (by omega)]; exact NO.out i (by omega))]; decide)] at HC
                go_wp2_with fail
                go_roundw
                case rel => exact ⟨j + 1, by omega, by go_num, by rw [TS.out]; exact HC.out, BB.out.trans (BO.out.mono BB.out.size)⟩
                case measure => simp [intOf]; omega
          · have HK : chk (y0, (y1, y2, y3), y4, false) = 4 := by rw [CK.out, if_neg (by simp), if_pos ⟨rfl, g4⟩]
            have g4' : (y4 != y1) = true := by rw [bne_iff_ne]; exact g4
            clear hLk
            rw [HK] at HC
            rw [if_pos (by simp)] at HC
            go_wp2_with fail
            go_ret
            exact ⟨by rw [← HC.out]; rfl, BB.out⟩
      · have HK : chk (y0, (y1, y2, y3), y4, y5) = 13 := by rw [CK.out, if_pos g3]
        have g3' : (y3 != 0) = true := by rw [bne_iff_ne]; exact g3
        clear hLk
        rw [HK] at HC
        rw [if_pos (by simp)] at HC
        go_wp2_with fail
        go_ret
        exact ⟨by rw [← HC.out]; rfl, BB.out⟩
    · obtain rfl : k = n := by omega
      go_wp2_with fail
      go_ret
      refine ⟨?_, BB.out⟩
      rw [List.drop_of_length_le (by rw [HN.out]; exact Nat.le_refl _)] at HC
      rw [← HC.out]; rfl
end Go.Proofs.YtjphhfgomlchoaaDoor
