/- slices.IndexFunc at the closure of find; find; Check. -/
import Derived.Test.YtjphhfgomlchoaaDoorMdChk
namespace Go.Proofs.YtjphhfgomlchoaaDoor
open Go.ChangeShapes Go.WideShapes Go.ChangeAt Go.RowKit Go.Maps
set_option maxRecDepth 100000 in
set_option maxHeartbeats 1600000 in
theorem idx_any (v : Value) (L : List En) (q : Nat) (a : Int) (w : World) (hv : ES w v L) (hq : Box w q #[.int .i64 a] 46) (hl : L.length ≤ 1000) : Calls Tryd.prog 42 #[v, .func (.func 43) #[] #[.pointer (some ⟨q, 0, none⟩)]] w fun e w' => e = .returned (.int .i64 (fnd a L)) ∧ Below w.heap.size w w' := by
  have HV := Lib.hid hv
  have HQ := Lib.hid hq
  obtain ⟨a1, c1, rfl, _⟩ := hv.form
  clear hv hq
  obtain ⟨n, hn⟩ : ∃ n, L.length = n := ⟨_, rfl⟩
  rw [hn] at HV hl ⊢
  have HN := Lib.hid hn
  clear hn
  obtain ⟨r, hr⟩ : ∃ r, fnd a L = r := ⟨_, rfl⟩
  rw [hr]
  have HR := Lib.hid hr
  clear hr
  go_enter Tryd.func42, Tryd.ntmps42
  go_wp2_with fail
  go_loopw [8] (fun iv wr => ∃ k : Nat, k ≤ n ∧ iv = .int .i64 k ∧ (∀ i, i < k → L[i]!.1 ≠ a) ∧ Below w.heap.size w wr) (fun iv _ => n - (intOf iv).toNat)
  case atStart => exact ⟨0, by omega, rfl, fun i hi => by omega, Below.refl _ _⟩
  case round =>
    obtain ⟨k, hk, rfl, hno, hb⟩ := hrel
    have BB := Lib.hid hb
    have NO := Lib.hid hno
    clear hb hno
    by_cases hlt : k < n
    · obtain ⟨b, off, rfl, hbl, hln, hc⟩ := HV.out.addr hlt
      obtain ⟨c0, c1, c2, c3, c4, c5⟩ := en_cells hc (by rw [hln]; exact hlt)
      rw [← BB.out.cell (p := ⟨b, _, none⟩) hbl] at c0 c1 c2 c3 c4 c5
      have CL := Lib.hid (clo_any L[k]! q a wr (HQ.out.below BB.out))
      clear hc hln
      unfold enV at CL
      obtain ⟨y, hy⟩ : ∃ y, L[k]! = y := ⟨_, rfl⟩
      rw [hy] at c0 c1 c2 c3 c4 c5 CL
      have HY := Lib.hid hy
      clear hy
      obtain ⟨y0, ⟨y1, y2, y3⟩, y4, y5⟩ := y
      simp only at c0 c1 c2 c3 c4 c5 CL
      go_wp2_with fail
      refine CL.out.mono ?_
      rintro e w' ⟨rfl, hb⟩
      replace BB := Lib.hid (BB.out.trans (hb.mono BB.out.size))
      clear hb CL c0 c1 c2 c3 c4 c5
      by_cases he : y0 = a
      · have he' : (y0 == a) = true := by rw [beq_iff_eq]; exact he
        have HE := Lib.hid he
        clear he
        go_wp2_with fail
        go_ret
        refine ⟨?_, BB.out⟩
        have e : r = k := HR.out.symm.trans (fnd_yes (by rw [HN.out]; exact hlt) (by rw [HY.out]; exact HE.out) NO.out)
        rw [e]; rfl
      · have he' : (y0 == a) = false := by rw [beq_eq_false_iff_ne]; exact he
        have HE := Lib.hid he
        clear he
        go_wp2_with fail
        go_roundw
        case rel =>
          refine ⟨k + 1, by omega, by go_num, fun i hi => ?_, BB.out⟩
          by_cases e : i = k
          · subst e; rw [HY.out]; exact HE.out
          · exact NO.out i (by omega)
        case measure => simp [intOf]; omega
    · obtain rfl : k = n := by omega
      go_wp2_with fail
      go_ret
      refine ⟨?_, BB.out⟩
      have e : r = -1 := HR.out.symm.trans (fnd_no (fun i hi => NO.out i (by rw [HN.out] at hi; exact hi)))
      rw [e]; rfl
set_option maxRecDepth 100000 in
theorem find_any (v : Value) (L : List En) (a : Int) (w : World) (hv : ES w v L) (hl : L.length ≤ 1000) : Calls Tryd.prog 27 #[.int .i64 a, v] w fun e w' => e = .returned (.int .i64 (fnd a L)) ∧ Below w.heap.size w w' := by
  have HV := Lib.hid hv
  obtain ⟨a1, c1, rfl, _⟩ := hv.form
  clear hv
  have BW := Lib.hid (below1 w (.cells #[.int .i64 a] 46))
  go_enter Tryd.func27, Tryd.ntmps27
  go_wp2_with fail
  refine (idx_any _ L w.heap.size a _ (HV.out.below BW.out) (Box.new w _ 46 rfl) hl).mono ?_
  rintro e w' ⟨rfl, hb⟩
  replace BW := Lib.hid (BW.out.trans (hb.mono BW.out.size))
  clear hb
  go_wp2_with fail
  go_ret
  exact ⟨rfl, BW.out⟩
set_option maxRecDepth 100000 in
set_option maxHeartbeats 3200000 in
theorem checkL_any (v : Value) (L : List En) (w : World) (hv : ES w v L) (hl : L.length ≤ 1000) : Calls Tryd.prog 11 #[v] w fun e w' => e = .returned (.int .i64 (chkL L)) ∧ Below w.heap.size w w' := by
  have HV := Lib.hid hv
  obtain ⟨a1, cp, rfl, hcap⟩ := hv.form
  clear hv
  obtain ⟨n, hn⟩ : ∃ n, L.length = n := ⟨_, rfl⟩
  rw [hn] at HV hl hcap ⊢
  have HN := Lib.hid hn
  clear hn
  obtain ⟨r, hr⟩ : ∃ r, chkL L = r := ⟨_, rfl⟩
  rw [hr]
  have HR := Lib.hid hr
  unfold chkL at HR
  rw [HN.out] at HR
  clear hr
  by_cases h0 : n = 0
  · subst h0
    go_enter Tryd.func11, Tryd.ntmps11
    go_wp2_with fail
    go_ret
    exact ⟨by rw [← HR.out]; rfl, Below.refl _ _⟩
  have h0' : ((n : Int) == 0) = false := by rw [beq_eq_false_iff_ne]; omega
  by_cases h1 : 32 < n
  · have h1' : (32 : Int) < n := by omega
    go_enter Tryd.func11, Tryd.ntmps11
    go_wp2_with fail
    go_ret
    exact ⟨by rw [← HR.out]; simp [h0, h1], Below.refl _ _⟩
  have h1' : ¬ (32 : Int) < n := by omega
  rw [if_neg h0, if_neg h1] at HR
  go_enter Tryd.func11, Tryd.ntmps11
  go_wp2_with fail
  clear h0 h0' h1'
  go_loopw [16] (fun iv wr => ∃ k : Nat, k ≤ n ∧ iv = .int .i64 k ∧ chkFrom (L.take k) (L.drop k) = r ∧ Below w.heap.size w wr) (fun iv _ => n - (intOf iv).toNat)
  case atStart => exact ⟨0, by omega, rfl, HR.out, Below.refl _ _⟩
  case round =>
    obtain ⟨k, hk, rfl, hch, hb⟩ := hrel
    have BB := Lib.hid hb
    have HC := Lib.hid hch
    clear hb hch
    by_cases hlt : k < n
    · obtain ⟨b, off, rfl, hbl, hln, hc⟩ := HV.out.addr hlt
      obtain ⟨c0, c1, c2, c3, c4, c5⟩ := en_cells hc (by rw [hln]; exact hlt)
      rw [← BB.out.cell (p := ⟨b, _, none⟩) hbl] at c0 c1 c2 c3 c4 c5
      rw [drop_cons L (by rw [HN.out]; exact hlt)] at HC
      have TS := Lib.hid (take_snoc L (k := k) (by rw [HN.out]; exact hlt))
      have FP := Lib.hid (fun W (h : Below w.heap.size w W) => find_any (.slice (some ⟨b, off, none⟩) k cp) (L.take k) (L[k]!).1 W (by simpa using (HV.out.below h).part 0 k cp (Nat.zero_le _) (by omega) (by omega)) (by simp; omega))
      have CK := Lib.hid (check_any L[k]!)
      clear hc hln
      unfold enV at CK
      obtain ⟨y, hy⟩ : ∃ y, L[k]! = y := ⟨_, rfl⟩
      rw [hy] at c0 c1 c2 c3 c4 c5 HC TS FP CK
      clear hy
      obtain ⟨y0, ⟨y1, y2, y3⟩, y4, y5⟩ := y
      simp only at c0 c1 c2 c3 c4 c5 FP CK
      go_upto_region 8 with fail
      obtain ⟨W, hW⟩ : ∃ W, wr.alloc (.cells #[.int .i64 y0, .int .i64 y1, .int .u32 y2, .int .u32 y3, .int .i64 y4, .bool y5] 48) = W := ⟨_, rfl⟩
      obtain ⟨q, hq⟩ : ∃ q, wr.heap.size = q := ⟨_, rfl⟩
      have B : Hid (Box W q #[.int .i64 y0, .int .i64 y1, .int .u32 y2, .int .u32 y3, .int .i64 y4, .bool y5] 48) := Lib.hid (by rw [← hW]; exact Box.new wr _ 48 hq.symm)
      replace BB : Hid (Below w.heap.size w W) := Lib.hid (by rw [← hW]; exact BB.out.alloc BB.out.size _)
      rw [hW, hq]
      clear hW hq c0 c1 c2 c3 c4 c5
      have z0 := B.out.cell 0
      have z1 := B.out.cell 1
      have z2 := B.out.cell 2
      have z3 := B.out.cell 3
      have z4 := B.out.cell 4
      have z5 := B.out.cell 5
      simp at z0 z1 z2 z3 z4 z5
      go_wp2_with fail
      refine (CK.out W).mono ?_
      rintro e w' ⟨rfl, hb⟩
      replace B := Lib.hid (B.out.below hb)
      replace BB := Lib.hid (BB.out.trans (hb.mono BB.out.size))
      clear hb z0 z1 z2 z3 z4 z5 CK
      obtain ⟨er, her⟩ : ∃ er, chk (y0, (y1, y2, y3), y4, y5) = er := ⟨_, rfl⟩
      rw [chkFrom, her] at HC
      rw [her]
      clear her
      by_cases he : er = 0
      · subst he
        rw [if_neg (by simp)] at HC
        have z0 := B.out.cell 0
        simp at z0
        go_upto_region 11 with fail
        have BD : Hid (Below w'.heap.size w' w'.drew) := Lib.hid ((Below.refl _ _).drew)
        have z1 : w'.drew.cell? ⟨q, 0, none⟩ = some (.int .i64 y0) := by rw [World.cell?_drew]; exact z0
        have FQ := Lib.hid (FP.out _ (BB.out.trans (BD.out.mono BB.out.size)))
        clear FP
        have k0 : (0 : Int) ≤ (k : Int) := by omega
        have k1 : (k : Int) ≤ (n : Int) := by omega
        have k2 : (k : Int) ≤ (cp : Int) := by omega
        have k3 : k ≤ cp := by omega
        go_region_held3 (fun wz => wz.cell? ⟨q, 0, none⟩ = some (.int .i64 y0)) (first | exact z0 | exact z1 | exact z2)
          (first
            | (go_at_call 27; (with_reducible refine FQ.out.mono ?_); rintro e w5 ⟨rfl, hb5⟩; have z2 := ((B.out.below BD.out).below hb5).cell 0; simp at z2; have BE := Lib.hid (BB.out.trans ((BD.out.trans (hb5.mono BD.out.size)).mono BB.out.size)); clear hb5))
        clear z0 z1 z2 FQ
        by_cases hf : 0 ≤ fnd y0 (L.take k)
        · rw [if_pos hf] at HC
          go_wp2_with fail
          go_ret
          exact ⟨by rw [← HC.out]; rfl, BE.out⟩
        · rw [if_neg hf] at HC
          go_wp2_with fail
          go_roundw
          case rel => exact ⟨k + 1, by omega, by go_num, by rw [TS.out]; exact HC.out, BE.out⟩
          case measure => simp [intOf]; omega
      · have he' : (er != 0) = true := by rw [bne_iff_ne]; exact he
        rw [if_pos he] at HC
        go_wp2_with fail
        go_ret
        exact ⟨by rw [← HC.out]; rfl, BB.out⟩
    · obtain rfl : k = n := by omega
      go_wp2_with fail
      go_ret
      refine ⟨?_, BB.out⟩
      rw [List.drop_of_length_le (by rw [HN.out]; exact Nat.le_refl _)] at HC
      rw [← HC.out]; rfl
end Go.Proofs.YtjphhfgomlchoaaDoor
