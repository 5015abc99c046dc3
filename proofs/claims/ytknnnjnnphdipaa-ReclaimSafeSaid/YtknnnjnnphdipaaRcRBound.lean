/- The reference's Bound. -/
import Derived.Test.YtknnnjnnphdipaaRcUnlike
namespace Go.Proofs.Ytknnnjnnphdipaa
open Go.ChangeShapes Go.WideShapes Go.ChangeAt Go.RowKit Go.Maps
theorem anyP_succ (h : Int) (L : List It) {k : Nat} (hk : k < L.length) : anyP h (L.take (k + 1)) = (anyP h (L.take k) || atP (L.getD k zIt) h) := by
  rw [take_succ_getD3 L hk]
  simp [anyP]
def oneP (L : List It) (h : Int) : Nat := if anyP h L = true then 1 else 0
theorem oneP_le (L : List It) (h : Int) : oneP L h ≤ 1 := by unfold oneP; split <;> omega
theorem sumF_take (f : Int → Nat) (V : List Int) {k : Nat} (h : k < V.length) : sumF f (V.take (k + 1)) = sumF f (V.take k) + f (V.getD k 0) := by
  rw [take_succ_getDJ V h, sumF_app]
  simp [sumF]
theorem sumF_bnd (f : Int → Nat) (V : List Int) (c k : Nat) (h : ∀ x, f x ≤ c) : sumF f (V.take k) ≤ k * c := by
  refine Nat.le_trans (sumF_le f _ c h) (Nat.mul_le_mul_right _ ?_)
  rw [List.length_take]; omega
set_option maxRecDepth 100000 in
set_option maxHeartbeats 6400000 in
theorem rbound_any (v u z : Value) (A P : List Int) (L : List It) (w : World) (hv : IS w v A) (hu : IS w u P) (hz : PS w z L) (la : A.length ≤ 1000) (lp : P.length ≤ 1000) (ll : L.length ≤ 1000) (hL : ∀ x ∈ L, 0 ≤ x.1 ∧ x.1 ≤ 63) :
    Calls Try.prog 19 #[v, u, z] w (Bnd A P L w) := by
  have HZ := Lib.hid hz
  have HU := Lib.hid hu
  have HV := Lib.hid hv
  have OL := Lib.hid hL
  obtain ⟨a1, c1, rfl⟩ := hv.form
  obtain ⟨a2, c2, rfl⟩ := hu.form
  obtain ⟨a3, c3, rfl⟩ := hz.form
  clear hv hu hz hL
  obtain ⟨n, hn⟩ : ∃ n, L.length = n := ⟨_, rfl⟩
  rw [hn] at ll HZ ⊢
  have HN := Lib.hid hn
  clear hn
  have HC := Lib.hid (fun e => cntE_le e L)
  go_enter Try.func19, Try.ntmps19
  go_wp2_with fail
  refine (unlike_any _ A w HV.out la).mono ?_
  rintro e w1 ⟨u1, V, rfl, r1, v1, v2, v3, b1⟩
  obtain ⟨x1, y1, rfl, -⟩ := r1.form
  have R1 := Lib.hid r1
  have V1 := Lib.hid v1
  have V2 := Lib.hid v2
  have B1 := Lib.hid b1
  clear r1 v1 v2 b1
  go_wp2_with fail
  refine (unlike_any _ P w1 (HU.out.below B1.out) lp).mono ?_
  rintro e w2 ⟨u2, U, rfl, r2, q1, q2, q3, b2⟩
  obtain ⟨x2, y2, rfl, -⟩ := r2.form
  have RV := Lib.hid (R1.out.is.below b2)
  have RU := Lib.hid r2.is
  have U1 := Lib.hid q1
  have U2 := Lib.hid q2
  have BW := Lib.hid (B1.out.trans (b2.mono B1.out.size))
  have PZ := Lib.hid (HZ.out.below BW.out)
  clear r2 q1 q2 b2 R1 B1 HZ HU HV
  obtain ⟨m, hm⟩ : ∃ n, V.length = n := ⟨_, rfl⟩
  obtain ⟨p, hp⟩ : ∃ n, U.length = n := ⟨_, rfl⟩
  rw [hm] at v3 RV ⊢
  rw [hp] at q3 RU ⊢
  have HM := Lib.hid hm
  have HP := Lib.hid hp
  clear hm hp
  have hm1 : m ≤ 1000 := by omega
  have hp1 : p ≤ 1000 := by omega
  clear v3 q3
  go_wp2_with fail
  go_loopw [7, 10] (fun nv iv wr => ∃ i : Nat, ∃ N : Nat, i ≤ m ∧ iv = .int .i64 i ∧ nv = .int .i64 N ∧ N = sumF (fun e => cntE e L) (V.take i) ∧ N ≤ i * 1000 ∧ Below w2.heap.size w2 wr) (fun _ iv _ => m - (intOf iv).toNat)
  case atStart => exact ⟨0, 0, by omega, rfl, rfl, by simp [sumF], by omega, Below.refl _ _⟩
  case round =>
    obtain ⟨i, N, hi, rfl, rfl, hs, hN, hb⟩ := hrel
    have BB := Lib.hid hb
    have HS := Lib.hid hs
    clear hb hs
    by_cases hlt : i < m
    · obtain ⟨b, off, rfl, hbl, hc⟩ := RV.out.addr hlt
      have C0 := Lib.hid ((BB.out.cell (p := ⟨b, _, none⟩) hbl).trans (hc i hlt))
      have hbr : b < wr.heap.size := Nat.lt_of_lt_of_le hbl BB.out.size
      have HT := Lib.hid (sumF_take (fun e => cntE e L) V (k := i) (by rw [HM.out]; exact hlt))
      clear hc
      obtain ⟨e, he⟩ : ∃ y, V.getD i 0 = y := ⟨_, rfl⟩
      rw [he] at C0 HT
      clear he
      go_wp2_with fail
      obtain ⟨wo, rfl⟩ : ∃ wo, wo = wr := ⟨_, rfl⟩
      go_loopw [7, 11] (fun nv kv wr => ∃ k : Nat, ∃ M : Nat, k ≤ n ∧ kv = .int .i64 k ∧ nv = .int .i64 M ∧ M = N + cntE e (L.take k) ∧ M ≤ N + k ∧ Below wo.heap.size wo wr) (fun _ kv _ => n - (intOf kv).toNat)
      case atStart => exact ⟨0, N, by omega, rfl, rfl, by simp [cntE], by omega, Below.refl _ _⟩
      case round =>
        obtain ⟨k, M, hk, rfl, rfl, hM, hMk, hb⟩ := hrel
        have B2 := Lib.hid hb
        have MM := Lib.hid hM
        clear hb hM
        by_cases hkn : k < n
        · obtain ⟨b2, off2, rfl, hbl2, hc2⟩ := PZ.out.addr hkn
          obtain ⟨c0, c1, c2⟩ := hc2 k hkn
          have hb3 : b2 < wo.heap.size := Nat.lt_of_lt_of_le hbl2 BB.out.size
          rw [← BB.out.cell (p := ⟨b2, _, none⟩) hbl2, ← B2.out.cell (p := ⟨b2, _, none⟩) hb3] at c0 c1 c2
          have d1 := (B2.out.cell (p := ⟨b, _, none⟩) hbr).trans C0.out
          have HC2 := Lib.hid (cntE_succ e L (k := k) (by rw [HN.out]; exact hkn))
          clear hc2
          obtain ⟨y, hy⟩ : ∃ y, L.getD k zIt = y := ⟨_, rfl⟩
          rw [hy] at c0 c1 c2 HC2
          clear hy
          unfold byE at HC2
          obtain ⟨z0, z1, z2⟩ := y
          simp only at c0 c1 c2 HC2
          by_cases h0 : e = 0
          · have h0' : (e != 0) = false := by subst h0; rfl
            have HF := Lib.hid h0
            clear h0
            go_wp2
            go_quiet (fail)
            go_wp2
            go_roundw
            case rel => exact ⟨k + 1, M, by omega, by go_num, rfl, by rw [HC2.out, MM.out]; simp [HF.out], by omega, below_drewN B2.out _⟩
            case measure => simp [intOf]; omega
          · have h0' : (e != 0) = true := by rw [bne_iff_ne]; exact h0
            have HF := Lib.hid h0
            clear h0
            by_cases h1 : z1 ≤ e
            · by_cases h2 : e ≤ z2
              · go_wp2
                go_quiet (fail)
                go_wp2
                go_roundw
                case rel => exact ⟨k + 1, M + 1, by omega, by go_num, by go_num, by rw [HC2.out, MM.out]; simp [HF.out, h1, h2]; omega, by omega, below_drewN B2.out _⟩
                case measure => simp [intOf]; omega
              · go_wp2
                go_quiet (fail)
                go_wp2
                go_roundw
                case rel => exact ⟨k + 1, M, by omega, by go_num, rfl, by rw [HC2.out, MM.out]; simp [h2], by omega, below_drewN B2.out _⟩
                case measure => simp [intOf]; omega
            · have HG := Lib.hid h1
              have h1a : e < z1 := by omega
              have h1b : decide (z1 ≤ e) = false := decide_eq_false h1
              have h1c : decide (e ≥ z1) = false := decide_eq_false h1
              clear h1
              go_wp2
              go_quiet (fail)
              go_wp2
              go_roundw
              case rel => exact ⟨k + 1, M, by omega, by go_num, rfl, by rw [HC2.out, MM.out]; simp; intro _ h; have := HG.out; omega, by omega, below_drewN B2.out _⟩
              case measure => simp [intOf]; omega
        · obtain rfl : k = n := by omega
          have LT : Hid (L.take k = L) := Lib.hid (List.take_of_length_le (by rw [HN.out]; exact Nat.le_refl _))
          rw [LT.out] at MM
          have B3 := Lib.hid (BB.out.trans (B2.out.mono BB.out.size))
          have hce := HC.out e
          rw [HN.out] at hce
          have hMb : M ≤ (i + 1) * 1000 := by have := MM.out; omega
          clear LT hce
          go_wp2_with fail
          go_roundw
          case rel => exact ⟨i + 1, M, by omega, by go_num, rfl, by rw [HT.out, MM.out, HS.out], hMb, B3.out⟩
          case measure => simp [intOf]; omega
    · obtain rfl : i = m := by omega
      have VT : Hid (V.take i = V) := Lib.hid (List.take_of_length_le (by rw [HM.out]; exact Nat.le_refl _))
      rw [VT.out] at HS
      have hN2 : N ≤ 1000000 := by omega
      clear VT
      go_wp2_with fail
      obtain ⟨wo, rfl⟩ : ∃ wo, wo = wr := ⟨_, rfl⟩
      have PZ2 := Lib.hid (PZ.out.below BB.out)
      have RU2 := Lib.hid (RU.out.below BB.out)
      go_loopw [7, 12] (fun nv iv wr => ∃ i : Nat, ∃ N' : Nat, i ≤ p ∧ iv = .int .i64 i ∧ nv = .int .i64 N' ∧ N' = N + sumF (oneP L) (U.take i) ∧ N' ≤ N + i ∧ Below wo.heap.size wo wr) (fun _ iv _ => p - (intOf iv).toNat)
      case atStart => exact ⟨0, N, by omega, rfl, rfl, by simp [sumF], by omega, Below.refl _ _⟩
      case round =>
        obtain ⟨i', N', hi', rfl, rfl, hs', hN', hb'⟩ := hrel
        have B3 := Lib.hid hb'
        have HS3 := Lib.hid hs'
        clear hb' hs'
        by_cases hlt' : i' < p
        · obtain ⟨b, off, rfl, hbl, hc⟩ := RU2.out.addr hlt'
          have C0 := Lib.hid ((B3.out.cell (p := ⟨b, _, none⟩) hbl).trans (hc i' hlt'))
          have hbr : b < wr.heap.size := Nat.lt_of_lt_of_le hbl B3.out.size
          have HT := Lib.hid (sumF_take (oneP L) U (k := i') (by rw [HP.out]; exact hlt'))
          clear hc
          obtain ⟨e, he⟩ : ∃ y, U.getD i' 0 = y := ⟨_, rfl⟩
          rw [he] at C0 HT
          clear he
          go_wp2_with fail
          obtain ⟨wi, rfl⟩ : ∃ wo, wo = wr := ⟨_, rfl⟩
          go_loopw [13, 14] (fun mv kv wr => ∃ k : Nat, k ≤ n ∧ kv = .int .i64 k ∧ mv = .bool (anyP e (L.take k)) ∧ Below wi.heap.size wi wr) (fun _ kv _ => n - (intOf kv).toNat)
          case atStart => exact ⟨0, by omega, rfl, by simp [anyP], Below.refl _ _⟩
          case round =>
            obtain ⟨k, hk, rfl, rfl, hb⟩ := hrel
            have B2 := Lib.hid hb
            clear hb
            by_cases hkn : k < n
            · obtain ⟨b2, off2, rfl, hbl2, hc2⟩ := PZ2.out.addr hkn
              obtain ⟨c0, c1, c2⟩ := hc2 k hkn
              have hb3 : b2 < wi.heap.size := Nat.lt_of_lt_of_le hbl2 B3.out.size
              rw [← B3.out.cell (p := ⟨b2, _, none⟩) hbl2, ← B2.out.cell (p := ⟨b2, _, none⟩) hb3] at c0 c1 c2
              have d1 := (B2.out.cell (p := ⟨b, _, none⟩) hbr).trans C0.out
              have HA2 := Lib.hid (anyP_succ e L (k := k) (by rw [HN.out]; exact hkn))
              obtain ⟨hy1, hy2⟩ := OL.out _ (getD_mem3 (L := L) (k := k) (by rw [HN.out]; exact hkn))
              clear hc2
              obtain ⟨y, hy⟩ : ∃ y, L.getD k zIt = y := ⟨_, rfl⟩
              rw [hy] at c0 c1 c2 HA2 hy1 hy2
              clear hy
              unfold atP at HA2
              obtain ⟨z0, z1, z2⟩ := y
              simp only at c0 c1 c2 HA2 hy1 hy2
              clear c1 c2
              cases hin : anyP e (L.take k) with
              | true =>
                have HI := Lib.hid hin
                clear hin
                go_wp2
                go_quiet (fail)
                go_wp2
                go_roundw
                case rel => exact ⟨k + 1, by omega, by go_num, by rw [HA2.out, HI.out]; rfl, below_drewN B2.out _⟩
                case measure => simp [intOf]; omega
              | false =>
                have HI := Lib.hid hin
                clear hin
                by_cases he : e = z0 + 1
                · have he' : (e == z0 + 1) = true := by rw [beq_iff_eq]; exact he
                  have HE := Lib.hid he
                  clear he
                  go_wp2
                  go_quiet (fail)
                  go_wp2
                  go_roundw
                  case rel => exact ⟨k + 1, by omega, by go_num, by rw [HA2.out, HI.out]; simp [HE.out], below_drewN B2.out _⟩
                  case measure => simp [intOf]; omega
                · have he' : (e == z0 + 1) = false := by rw [beq_eq_false_iff_ne]; exact he
                  have HE := Lib.hid he
                  clear he
                  go_wp2
                  go_quiet (fail)
                  go_wp2
                  go_roundw
                  case rel => exact ⟨k + 1, by omega, by go_num, by rw [HA2.out, HI.out]; simp [HE.out], below_drewN B2.out _⟩
                  case measure => simp [intOf]; omega
            · obtain rfl : k = n := by omega
              have LT : Hid (L.take k = L) := Lib.hid (List.take_of_length_le (by rw [HN.out]; exact Nat.le_refl _))
              rw [LT.out]
              have B4 := Lib.hid (B3.out.trans (B2.out.mono B3.out.size))
              clear LT
              cases hin : anyP e L with
              | true =>
                have HI : Hid (oneP L e = 1) := Lib.hid (by unfold oneP; rw [hin]; rfl)
                clear hin
                go_wp2_with fail
                go_roundw
                case rel => exact ⟨i' + 1, N' + 1, by omega, by go_num, by go_num, by rw [HT.out, HI.out, HS3.out]; omega, by omega, B4.out⟩
                case measure => simp [intOf]; omega
              | false =>
                have HI : Hid (oneP L e = 0) := Lib.hid (by unfold oneP; rw [hin]; rfl)
                clear hin
                go_wp2_with fail
                go_roundw
                case rel => exact ⟨i' + 1, N', by omega, by go_num, rfl, by rw [HT.out, HI.out, HS3.out]; omega, by omega, B4.out⟩
                case measure => simp [intOf]; omega
        · obtain rfl : i' = p := by omega
          have UT : Hid (U.take i' = U) := Lib.hid (List.take_of_length_le (by rw [HP.out]; exact Nat.le_refl _))
          rw [UT.out] at HS3
          clear UT
          have BZ := Lib.hid (BW.out.trans ((BB.out.trans (B3.out.mono BB.out.size)).mono BW.out.size))
          go_wp2_with fail
          go_ret
          exact ⟨N', rfl, ⟨V, U, V1.out, V2.out, U1.out, U2.out, by rw [HS3.out, HS.out]; rfl⟩, by omega, BZ.out⟩
end Go.Proofs.Ytknnnjnnphdipaa
