/- The reference's InWay. -/
import Derived.Test.YtknnnjnnphdipaaRcIs
namespace Go.Proofs.Ytknnnjnnphdipaa
open Go.ChangeShapes Go.WideShapes Go.ChangeAt Go.RowKit Go.Maps
theorem getD_memI {L : List Int} {k : Nat} (h : k < L.length) : L.getD k 0 ∈ L := by
  rw [List.getD, List.getElem?_eq_getElem h]; exact List.getElem_mem _
set_option maxRecDepth 100000 in
set_option maxHeartbeats 6400000 in
theorem inway_any (x : It) (v u : Value) (A P : List Int) (w : World) (hv : IS w v A) (hu : IS w u P) (la : A.length ≤ 1000) (lp : P.length ≤ 1000) (hx : 0 ≤ x.1 ∧ x.1 ≤ 63) : Calls Try.prog 14 #[itV x, v, u] w (Pr (protB A P x) w) := by
  have HV := Lib.hid hv
  have HU := Lib.hid hu
  obtain ⟨a1, c1, rfl⟩ := hv.form
  obtain ⟨a2, c2, rfl⟩ := hu.form
  clear hv hu
  have HI := Lib.hid (protB_iff A P x)
  have HNO := Lib.hid (fun h1 h2 => protB_no (A := A) (P := P) (x := x) h1 h2)
  obtain ⟨r, hr⟩ : ∃ r, protB A P x = r := ⟨_, rfl⟩
  rw [hr] at HI ⊢
  have HR := Lib.hid hr
  clear hr
  obtain ⟨n, hn⟩ : ∃ n, A.length = n := ⟨_, rfl⟩
  obtain ⟨m, hm⟩ : ∃ n, P.length = n := ⟨_, rfl⟩
  rw [hn] at la HV ⊢
  rw [hm] at lp HU ⊢
  have HN := Lib.hid hn
  have HM := Lib.hid hm
  clear hn hm
  have HB := Lib.hid (fun e => (rfl : byE x e = decide (e ≠ 0 ∧ x.2.1 ≤ e ∧ e ≤ x.2.2)))
  have HA := Lib.hid (fun h => (rfl : atP x h = decide (h = x.1 + 1)))
  obtain ⟨bE, hbE⟩ : ∃ f, byE x = f := ⟨_, rfl⟩
  obtain ⟨aP, haP⟩ : ∃ f, atP x = f := ⟨_, rfl⟩
  have HI' : Hid (((∃ e ∈ A, bE e = true) ∨ ∃ h ∈ P, aP h = true) → r = true) := Lib.hid (by rw [← hbE, ← haP]; exact HI.out.2)
  have HNO' : Hid ((∀ i, i < n → bE (A.getD i 0) = false) → (∀ i, i < m → aP (P.getD i 0) = false) → r = false) := Lib.hid (by
    rw [← hbE, ← haP]
    intro h1 h2
    rw [← HR.out]
    exact HNO.out (by rw [HN.out]; exact h1) (by rw [HM.out]; exact h2))
  have HB' : Hid (∀ e, bE e = decide (e ≠ 0 ∧ x.2.1 ≤ e ∧ e ≤ x.2.2)) := Lib.hid (by rw [← hbE]; exact HB.out)
  have HA' : Hid (∀ e, aP e = decide (e = x.1 + 1)) := Lib.hid (by rw [← haP]; exact HA.out)
  clear HI HNO HB HA HR hbE haP
  obtain ⟨hx1, hx2⟩ := hx
  unfold itV
  obtain ⟨y0, y1, y2⟩ := x
  simp only at HB' HA' hx1 hx2 ⊢
  go_enter Try.func14, Try.ntmps14
  go_upto_region 1 with fail
  obtain ⟨q, hq⟩ : ∃ q, w.heap.size = q := ⟨_, rfl⟩
  obtain ⟨W, hW⟩ : ∃ W, w.alloc (.cells #[.int .i64 y0, .int .i64 y1, .int .i64 y2] 35) = W := ⟨_, rfl⟩
  have X : Hid (Box W q #[.int .i64 y0, .int .i64 y1, .int .i64 y2] 35) := Lib.hid (by rw [← hW]; exact Box.new w _ 35 hq.symm)
  have BW : Hid (Below w.heap.size w W) := Lib.hid (by rw [← hW]; exact below1 w _)
  have V := Lib.hid (HV.out.below BW.out)
  have U := Lib.hid (HU.out.below BW.out)
  rw [hW, hq]
  clear hW hq HV HU
  go_wp2_with fail
  go_loopw [7] (fun iv wr => ∃ k : Nat, k ≤ n ∧ iv = .int .i64 k ∧ (∀ i, i < k → bE (A.getD i 0) = false) ∧ Below W.heap.size W wr) (fun iv _ => n - (intOf iv).toNat)
  case atStart => exact ⟨0, by omega, rfl, fun i hi => by omega, Below.refl _ _⟩
  case round =>
    obtain ⟨k, hk, rfl, hno, hb⟩ := hrel
    have NO := Lib.hid hno
    have BB := Lib.hid hb
    clear hno hb
    by_cases hlt : k < n
    · obtain ⟨b, off, rfl, hbl, hc⟩ := V.out.addr hlt
      have c0 := hc k hlt
      rw [← BB.out.cell (p := ⟨b, _, none⟩) hbl] at c0
      have hmem := Lib.hid (getD_memI (L := A) (k := k) (by rw [HN.out]; exact hlt))
      clear hc
      obtain ⟨e, he⟩ : ∃ e, A.getD k 0 = e := ⟨_, rfl⟩
      rw [he] at c0 hmem
      have HE := Lib.hid he
      clear he
      have z0 := (X.out.below BB.out).cell 0
      have z1 := (X.out.below BB.out).cell 1
      have z2 := (X.out.below BB.out).cell 2
      simp at z0 z1 z2
      have next : Hid (bE e = false → ∀ i, i < k + 1 → bE (A.getD i 0) = false) := Lib.hid (fun h i hi => by
        by_cases e : i = k
        · subst e; rw [HE.out]; exact h
        · exact NO.out i (by omega))
      by_cases h0 : e = 0
      · have h0' : (e != 0) = false := by subst h0; rfl
        have HF := Lib.hid (next.out (by rw [HB'.out e]; simp [h0]))
        clear h0
        go_wp2
        go_quiet (fail)
        go_wp2
        go_roundw
        case rel => exact ⟨k + 1, by omega, by go_num, HF.out, below_drewN BB.out _⟩
        case measure => simp [intOf]; omega
      · have h0' : (e != 0) = true := by rw [bne_iff_ne]; exact h0
        by_cases h1 : y1 ≤ e
        · by_cases h2 : e ≤ y2
          · have HF : Hid (r = true) := Lib.hid (HI'.out (.inl ⟨e, hmem.out, by rw [HB'.out e]; simp [h0, h1, h2]⟩))
            clear h0
            go_wp2
            go_quiet (fail)
            go_wp2
            go_ret
            refine ⟨?_, below_drewN (BW.out.trans (BB.out.mono BW.out.size)) _⟩
            rw [HF.out]; rfl
          · have HF := Lib.hid (next.out (by rw [HB'.out e]; simp [h2]))
            clear h0
            go_wp2
            go_quiet (fail)
            go_wp2
            go_roundw
            case rel => exact ⟨k + 1, by omega, by go_num, HF.out, below_drewN BB.out _⟩
            case measure => simp [intOf]; omega
        · have HF := Lib.hid (next.out (by rw [HB'.out e]; simp [h1]))
          have h1a : e < y1 := by omega
          have h1b : decide (y1 ≤ e) = false := decide_eq_false h1
          have h1c : decide (e ≥ y1) = false := decide_eq_false h1
          clear h0 h1
          go_wp2
          go_quiet (fail)
          go_wp2
          go_roundw
          case rel => exact ⟨k + 1, by omega, by go_num, HF.out, below_drewN BB.out _⟩
          case measure => simp [intOf]; omega
    · obtain rfl : k = n := by omega
      have BW2 := Lib.hid (BW.out.trans (BB.out.mono BW.out.size))
      have U2 := Lib.hid (U.out.below BB.out)
      have X2 := Lib.hid (X.out.below BB.out)
      go_wp2
      obtain ⟨wo, rfl⟩ : ∃ wo, wo = wr := ⟨_, rfl⟩
      go_loopw [8] (fun iv wr => ∃ j : Nat, j ≤ m ∧ iv = .int .i64 j ∧ (∀ i, i < j → aP (P.getD i 0) = false) ∧ Below wo.heap.size wo wr) (fun iv _ => m - (intOf iv).toNat)
      case atStart => exact ⟨0, by omega, rfl, fun i hi => by omega, Below.refl _ _⟩
      case round =>
        obtain ⟨j, hj, rfl, hno, hb⟩ := hrel
        have NO2 := Lib.hid hno
        have B2 := Lib.hid hb
        clear hno hb
        by_cases hlt : j < m
        · obtain ⟨b, off, rfl, hbl, hc⟩ := U2.out.addr hlt
          have c0 := hc j hlt
          rw [← B2.out.cell (p := ⟨b, _, none⟩) hbl] at c0
          have hmem := Lib.hid (getD_memI (L := P) (k := j) (by rw [HM.out]; exact hlt))
          clear hc
          obtain ⟨e, he⟩ : ∃ e, P.getD j 0 = e := ⟨_, rfl⟩
          rw [he] at c0 hmem
          have HE := Lib.hid he
          clear he
          have z0 := (X2.out.below B2.out).cell 0
          have z1 := (X2.out.below B2.out).cell 1
          have z2 := (X2.out.below B2.out).cell 2
          simp at z0 z1 z2
          by_cases h0 : e = y0 + 1
          · have h0' : (e == y0 + 1) = true := by rw [beq_iff_eq]; exact h0
            have HF : Hid (r = true) := Lib.hid (HI'.out (.inr ⟨e, hmem.out, by rw [HA'.out e]; simp [h0]⟩))
            clear h0
            go_wp2
            go_quiet (fail)
            go_wp2
            go_ret
            refine ⟨?_, below_drewN (BW2.out.trans (B2.out.mono BW2.out.size)) _⟩
            rw [HF.out]; rfl
          · have h0' : (e == y0 + 1) = false := by rw [beq_eq_false_iff_ne]; exact h0
            have HF : Hid (∀ i, i < j + 1 → aP (P.getD i 0) = false) := Lib.hid (fun i hi => by
              by_cases e : i = j
              · subst e; rw [HE.out, HA'.out]; exact decide_eq_false h0
              · exact NO2.out i (by omega))
            clear h0
            go_wp2
            go_quiet (fail)
            go_wp2
            go_roundw
            case rel => exact ⟨j + 1, by omega, by go_num, HF.out, below_drewN B2.out _⟩
            case measure => simp [intOf]; omega
        · obtain rfl : j = m := by omega
          have HF : Hid (r = false) := Lib.hid (HNO'.out NO.out NO2.out)
          go_wp2
          go_ret
          refine ⟨?_, BW2.out.trans (B2.out.mono BW2.out.size)⟩
          rw [HF.out]; rfl
end Go.Proofs.Ytknnnjnnphdipaa
