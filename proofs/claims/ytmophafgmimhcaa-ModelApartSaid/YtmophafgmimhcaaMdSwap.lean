/- Swap of a model. -/
import Derived.Test.YtmophafgmimhcaaMdHolds
namespace Go.Proofs.Ytmophafgmimhcaa
open Go.ChangeShapes Go.WideShapes Go.ChangeAt Go.RowKit Go.Maps
theorem row_store {B : Nat} {w : World} {g n c : Nat} {L : List Wd} (h : RowK wdE 43 B w (.slice (some ⟨g, 0, none⟩) n c) L) {j : Nat} (hj : j < L.length) (x : Wd) :
    RowK wdE 43 B (((w.setCell ⟨g, j * 3, none⟩ (.int .i64 x.1)).setCell ⟨g, j * 3 + 1, none⟩ (.int .u32 x.2.1)).setCell ⟨g, j * 3 + 2, none⟩ (.int .u32 x.2.2)) (.slice (some ⟨g, 0, none⟩) n c) (L.set j x) := by
  have h1 := h.set (i := j) (j := 0) (u := .int .i64 x.1) (a := (x.1, (L[j]!).2.1, (L[j]!).2.2)) hj (by decide) rfl
  have e1 : (L.set j (x.1, (L[j]!).2.1, (L[j]!).2.2))[j]! = (x.1, (L[j]!).2.1, (L[j]!).2.2) := by
    rw [getElem!_pos _ j (by rw [List.length_set]; exact hj), List.getElem_set_self]
  have h2 := h1.set (i := j) (j := 1) (u := .int .u32 x.2.1) (a := (x.1, x.2.1, (L[j]!).2.2)) (by rw [List.length_set]; exact hj) (by decide) (by rw [e1]; rfl)
  rw [List.set_set] at h2
  have e2 : (L.set j (x.1, x.2.1, (L[j]!).2.2))[j]! = (x.1, x.2.1, (L[j]!).2.2) := by
    rw [getElem!_pos _ j (by rw [List.length_set]; exact hj), List.getElem_set_self]
  have h3 := h2.set (i := j) (j := 2) (u := .int .u32 x.2.2) (a := x) (by rw [List.length_set]; exact hj) (by decide) (by rw [e2]; rfl)
  rw [List.set_set] at h3
  exact h3
theorem row_storeBelow {B : Nat} {w0 w : World} {g n c : Nat} {L : List Wd} (h : RowK wdE 43 B w (.slice (some ⟨g, 0, none⟩) n c) L) (hb : Below B w0 w) (a b d : Nat) (x y z : Value) :
    Below B w0 (((w.setCell ⟨g, a, none⟩ x).setCell ⟨g, b, none⟩ y).setCell ⟨g, d, none⟩ z) := by
  obtain ⟨h1, ⟨h2, _⟩ | ⟨g', cap, cur, hv, hB, hh, _⟩⟩ := h
  · cases h2
  injection hv with e1
  injection e1 with e1
  injection e1 with e1
  subst e1
  exact ((hb.setCell hB _).setCell hB _).setCell hB _
theorem row_cells {B : Nat} {w : World} {g n c : Nat} {L : List Wd} (h : RowK wdE 43 B w (.slice (some ⟨g, 0, none⟩) n c) L) {j : Nat} (hj : j < L.length) : w.cell? ⟨g, j * 3, none⟩ = some (.int .i64 (L[j]!).1) ∧ w.cell? ⟨g, j * 3 + 1, none⟩ = some (.int .u32 (L[j]!).2.1) ∧ w.cell? ⟨g, j * 3 + 2, none⟩ = some (.int .u32 (L[j]!).2.2) := by
  obtain ⟨a', c', e, _, h⟩ := h.sk
  injection e with e1 e2 e3
  rcases h with h | ⟨b, off, h1, h2, h3⟩
  · subst h; simp at hj
  · rw [← e1] at h1
    injection h1 with h1
    injection h1 with h1 h4
    subst h1 h4
    have := wd_cells h3 hj
    simp only [Nat.zero_add] at this
    exact this
theorem own_mod {w : World} {B : Nat} {v : Value} {L : List Wd} (h : RowK wdE 43 B w v L) {q : Nat} {cs : Array Value} {t : TypeId} (hq : Box w q cs t) (ht : t ≠ 43) (u : Value) (j : Nat) : RowK wdE 43 B (w.setCell ⟨q, j, none⟩ u) v L := by
  have hne := box_not_rowK h hq ht
  obtain ⟨h1, h2 | ⟨g, cap, cur, hv, hB, hh, r⟩⟩ := h
  · exact ⟨h1, .inl h2⟩
  · refine ⟨h1, .inr ⟨g, cap, cur, hv, hB, ?_, r⟩⟩
    subst hv
    exact Box.other (t := 43) hh (fun e => hne (by rw [e]; rfl)) j u
set_option maxRecDepth 100000 in
set_option maxHeartbeats 3200000 in
theorem swap_any (mv : Value) (M : List Wd) (v : Value) (L : List En) (w : World) (hm : WS w mv M) (hv : ES w v L) (hl : L.length ≤ 1000) (hml : M.length ≤ 1000) : Calls Try.prog 12 #[.agg #[mv], v] w fun e w' => ∃ u, e = .returned (.tuple #[.agg #[u], .bool (swp M L).2.1, .int .i64 (swp M L).2.2]) ∧ WS w' u (swp M L).1 ∧ Below w.heap.size w w' := by
  have HM := Lib.hid hm
  have HV := Lib.hid hv
  obtain ⟨a1, cp, rfl, hcap⟩ := hv.form
  obtain ⟨ma, mc, rfl, _⟩ := hm.form
  clear hm hv
  obtain ⟨n, hn⟩ : ∃ n, L.length = n := ⟨_, rfl⟩
  obtain ⟨mn, hmn⟩ : ∃ n, M.length = n := ⟨_, rfl⟩
  rw [hn] at HV hl hcap ⊢
  rw [hmn] at HM hml ⊢
  have HN := Lib.hid hn
  have HMN := Lib.hid hmn
  clear hn hmn
  obtain ⟨r, hr⟩ : ∃ r, swp M L = r := ⟨_, rfl⟩
  rw [hr]
  have HR := Lib.hid hr
  unfold swp at HR
  clear hr
  have CK := Lib.hid (fun W (h : Below w.heap.size w W) => mcheck_any _ M _ L W (HM.out.below h) (HV.out.below h) (by rw [HN.out]; exact hl))
  have HO := Lib.hid (fun W (h : Below w.heap.size w W) => holds_any _ M _ L W (HM.out.below h) (HV.out.below h) (by rw [HN.out]; exact hl))
  have HAS : Hid (chkM M L = 0 → ∀ i, i < n → 0 ≤ (L[i]!).1 ∧ (L[i]!).1 < mn) := Lib.hid (fun h i hi => by
    unfold chkM at h
    split at h
    · contradiction
    · split at h
      · rename_i h2
        unfold hasL at h2
        rw [List.all_eq_true] at h2
        have := h2 _ (mem_at (by rw [HN.out]; exact hi))
        unfold hasM at this
        rw [decide_eq_true_iff, HMN.out] at this
        exact this
      · simp at h)
  obtain ⟨c, hc⟩ : ∃ c, chkM M L = c := ⟨_, rfl⟩
  rw [hc] at HR CK HAS
  clear hc
  obtain ⟨ho, hho⟩ : ∃ c, holds M L = c := ⟨_, rfl⟩
  rw [hho] at HR HO
  clear hho
  go_enter Try.func12, Try.ntmps12
  go_upto_region 1 with fail
  obtain ⟨W, hW⟩ : ∃ W, (w.alloc (.cells #[.slice ma mn mc] 27)).alloc (.cells #[.slice none 0 0] 27) = W := ⟨_, rfl⟩
  obtain ⟨q, hq⟩ : ∃ q, w.heap.size = q := ⟨_, rfl⟩
  have B : Hid (Box W q #[.slice ma mn mc] 27) := Lib.hid (by rw [← hW]; exact (Box.new w _ 27 hq.symm).alloc _)
  have X : Hid (Box W (q + 1) #[.slice none 0 0] 27) := Lib.hid (by rw [← hW]; exact Box.new _ _ 27 (by simp; omega))
  have BB : Hid (Below w.heap.size w W) := Lib.hid (by rw [← hW]; exact (below1 w _).alloc (by simp) _)
  have hqW : Hid (w.heap.size ≤ q + 1) := Lib.hid (by omega)
  rw [hW, hq]
  clear hW hq
  obtain ⟨x, hx⟩ : ∃ x, q + 1 = x := ⟨_, rfl⟩
  rw [hx] at X hqW ⊢
  have hqx : Hid (q ≠ x) := Lib.hid (by omega)
  clear hx
  have z0 := B.out.cell 0
  simp at z0
  go_wp2_with fail
  refine (CK.out W BB.out).mono ?_
  rintro e w1 ⟨rfl, hb⟩
  replace B := Lib.hid (B.out.below hb)
  replace X := Lib.hid (X.out.below hb)
  replace BB := Lib.hid (BB.out.trans (hb.mono BB.out.size))
  clear hb CK z0
  have z0 := B.out.cell 0
  have x0 := X.out.cell 0
  have xf := X.out.free 0
  simp at z0 x0
  by_cases h0 : c = 0
  · subst h0
    rw [if_neg (by simp)] at HR
    go_wp2_with fail
    refine (HO.out w1 BB.out).mono ?_
    rintro e w2 ⟨rfl, hb⟩
    replace B := Lib.hid (B.out.below hb)
    replace X := Lib.hid (X.out.below hb)
    replace BB := Lib.hid (BB.out.trans (hb.mono BB.out.size))
    clear hb HO z0 x0 xf
    have z0 := B.out.cell 0
    have x0 := X.out.cell 0
    have xf := X.out.free 0
    simp at z0 x0
    cases ho with
    | false =>
      rw [if_neg (by simp)] at HR
      go_wp2_with fail
      have D := Lib.hid (X.out.set 0 (.slice ma mn mc))
      have d0 := D.out.cell 0
      simp at d0
      have BD := Lib.hid (BB.out.setCell (p := ⟨x, 0, none⟩) hqW.out (.slice ma mn mc))
      refine bodyPost_ret (v := .tuple #[.agg #[.slice ma mn mc], .bool false, .int .i64 0]) (by simp [results, Try.f12, go_sem, d0]) rfl ⟨_, by rw [← HR.out], ?_, BD.out⟩
      rw [← HR.out]
      exact HM.out.below BD.out
    | true =>
      rw [if_pos rfl] at HR
      have WD := Lib.hid (words_any _ M w2 (HM.out.below BB.out) (by rw [HMN.out]; exact hml))
      go_wp2_with fail
      refine WD.out.mono ?_
      rintro e w3 ⟨u, rfl, hr, hb⟩
      obtain ⟨ua, uc, rfl, _⟩ := hr.form
      rw [HMN.out] at hr ⊢
      have RR := Lib.hid (hr.mono BB.out.size)
      replace X := Lib.hid (X.out.below hb)
      replace BB := Lib.hid (BB.out.trans (hb.mono BB.out.size))
      clear hr hb WD z0 x0 xf B
      go_wp2_with fail
      go_loopw [27] (fun iv wr => ∃ k : Nat, k ≤ n ∧ iv = .int .i64 k ∧ RowK wdE 43 w.heap.size wr (.slice ua mn uc) (upd M (L.take k)) ∧ Box wr x #[.slice none 0 0] 27 ∧ Below w.heap.size w wr) (fun iv _ => n - (intOf iv).toNat)
      case atStart => exact ⟨0, by omega, rfl, RR.out, X.out, BB.out⟩
      case round =>
        obtain ⟨k, hk, rfl, hr, hX, hb⟩ := hrel
        replace BB := Lib.hid hb
        replace X := Lib.hid hX
        have R := Lib.hid hr
        clear hb hr hX RR
        by_cases hlt : k < n
        · obtain ⟨b, off, rfl, hbl, hln, hc⟩ := HV.out.addr hlt
          obtain ⟨c0, c1, c2, c3, c4, c5⟩ := en_cells hc (by rw [hln]; exact hlt)
          rw [← BB.out.cell (p := ⟨b, _, none⟩) hbl] at c0 c1 c2 c3 c4 c5
          have UT := Lib.hid (upd_take M L (k := k) (by rw [HN.out]; exact hlt))
          obtain ⟨ya0, ya1⟩ := HAS.out (by trivial) k hlt
          clear hc hln
          obtain ⟨y, hy⟩ : ∃ y, L[k]! = y := ⟨_, rfl⟩
          rw [hy] at c0 c1 c2 c3 c4 c5 UT ya0 ya1
          clear hy
          obtain ⟨y0, ⟨y1, y2, y3⟩, y4, y5⟩ := y
          simp only at c0 c1 c2 c3 c4 c5 ya0 ya1
          obtain ⟨j, rfl⟩ : ∃ j : Nat, y0 = j := ⟨y0.toNat, by omega⟩
          unfold upd1 at UT
          simp only [Int.toNat_natCast] at UT
          have UL := Lib.hid (upd_len M (L.take k))
          rw [HMN.out] at UL
          obtain ⟨U, hU⟩ : ∃ U, upd M (L.take k) = U := ⟨_, rfl⟩
          rw [hU] at UT UL R
          clear hU
          have hjl : j < mn := by omega
          replace R := Lib.hid (R.out.below (below1 wr (.cells #[.int .i64 (j : Int), .int .i64 y1, .int .u32 y2, .int .u32 y3, .int .i64 y4, .bool y5] 50)))
          replace X := Lib.hid (X.out.alloc (.cells #[.int .i64 (j : Int), .int .i64 y1, .int .u32 y2, .int .u32 y3, .int .i64 y4, .bool y5] 50))
          replace BB := Lib.hid (BB.out.alloc BB.out.size (.cells #[.int .i64 (j : Int), .int .i64 y1, .int .u32 y2, .int .u32 y3, .int .i64 y4, .bool y5] 50))
          have EB := Lib.hid (Box.new wr #[.int .i64 (j : Int), .int .i64 y1, .int .u32 y2, .int .u32 y3, .int .i64 y4, .bool y5] 50 rfl)
          cases y5 with
          | false =>
            go_wp2_with fail
            go_roundw
            case rel => exact ⟨k + 1, by omega, by go_num, by rw [UT.out]; exact R.out, X.out, BB.out⟩
            case measure => simp [intOf]; omega
          | true =>
            simp only [if_true] at UT
            obtain ⟨g, rfl, hg, hgl, _⟩ := R.out.block (by omega : 0 < mn)
            go_upto_region 11 with fail
            generalize wr.alloc (.cells #[.int .i64 (j : Int), .int .i64 y1, .int .u32 y2, .int .u32 y3, .int .i64 y4, .bool true] 50) = W4 at *
            obtain ⟨p, hp⟩ : ∃ p, wr.heap.size = p := ⟨_, rfl⟩
            rw [hp] at EB ⊢
            clear hp c0 c1 c2 c3 c4 c5
            have k0 := EB.out.cell 0
            have k2 := EB.out.cell 2
            have k4 := EB.out.cell 4
            simp at k0 k2 k4
            obtain ⟨r0, r1, r2⟩ := row_cells R.out (j := j) (by rw [UL.out]; exact hjl)
            have f0 := R.out.free (j * 3)
            have f1 := R.out.free (j * 3 + 1)
            have f2 := R.out.free (j * 3 + 2)
            have NS := Lib.hid (row_store R.out (j := j) (by rw [UL.out]; exact hjl) (y4, IntKind.u32.wrap (y2 + 1), 0))
            have NB := Lib.hid (row_storeBelow R.out BB.out (j * 3) (j * 3 + 1) (j * 3 + 2) (.int .i64 y4) (.int .u32 (IntKind.u32.wrap (y2 + 1))) (.int .u32 0))
            have hgx : Hid (x ≠ g) := Lib.hid (fun e => box_not_rowK R.out X.out (by decide) (by rw [e]; rfl))
            have NX := Lib.hid (((X.out.other hgx.out (j * 3) (.int .i64 y4)).other hgx.out (j * 3 + 1) (.int .u32 (IntKind.u32.wrap (y2 + 1)))).other hgx.out (j * 3 + 2) (.int .u32 0))
            go_wp2_with fail
            go_roundw
            case rel => exact ⟨k + 1, by omega, by go_num, by rw [UT.out]; exact NS.out, NX.out, NB.out⟩
            case measure => simp [intOf]; omega
        · obtain rfl : k = n := by omega
          rw [List.take_of_length_le (by rw [HN.out]; exact Nat.le_refl _)] at R
          have x0 := X.out.cell 0
          have xf := X.out.free 0
          simp at x0
          go_wp2_with fail
          have D := Lib.hid (X.out.set 0 (.slice ua mn uc))
          have d0 := D.out.cell 0
          simp at d0
          have BD := Lib.hid (BB.out.setCell (p := ⟨x, 0, none⟩) hqW.out (.slice ua mn uc))
          refine bodyPost_ret (v := .tuple #[.agg #[.slice ua mn uc], .bool true, .int .i64 0]) (by simp [results, Try.f12, go_sem, d0]) rfl ⟨_, by rw [← HR.out], ?_, BD.out⟩
          rw [← HR.out]
          exact (own_mod R.out X.out (by decide) _ 0).sk
  · have h0' : (c != 0) = true := by rw [bne_iff_ne]; exact h0
    rw [if_pos h0] at HR
    go_wp2_with fail
    have D := Lib.hid (X.out.set 0 (.slice ma mn mc))
    have d0 := D.out.cell 0
    simp at d0
    have BD := Lib.hid (BB.out.setCell (p := ⟨x, 0, none⟩) hqW.out (.slice ma mn mc))
    refine bodyPost_ret (v := .tuple #[.agg #[.slice ma mn mc], .bool false, .int .i64 c]) (by simp [results, Try.f12, go_sem, d0]) rfl ⟨_, by rw [← HR.out], ?_, BD.out⟩
    rw [← HR.out]
    exact HM.out.below BD.out
end Go.Proofs.Ytmophafgmimhcaa
