/- When an item is protected: isProtected, countProtected, anyAt; InWay of the reference. -/
import Derived.Test.YtknnnjnnphdipaaRcSmall
namespace Go.Proofs.Ytknnnjnnphdipaa
open Go.ChangeShapes Go.WideShapes Go.ChangeAt Go.RowKit Go.Maps
def OkL (L : List Int) : Prop := ∀ x ∈ L, I64 x
def protB (A P : List Int) (x : It) : Bool := A.any (fun e => byE x e) || P.any (fun h => atP x h)
theorem protB_iff (A P : List Int) (x : It) : protB A P x = true ↔ (∃ e ∈ A, byE x e = true) ∨ ∃ h ∈ P, atP x h = true := by unfold protB; simp
theorem protB_no {A P : List Int} {x : It} (h1 : ∀ i, i < A.length → byE x (A.getD i 0) = false) (h2 : ∀ i, i < P.length → atP x (P.getD i 0) = false) : protB A P x = false := by
  cases h : protB A P x with
  | false => rfl
  | true =>
    rcases (protB_iff A P x).1 h with ⟨e, he, hb⟩ | ⟨e, he, hb⟩
    · obtain ⟨i, hi, rfl⟩ := mem_getD he
      rw [h1 i hi] at hb; cases hb
    · obtain ⟨i, hi, rfl⟩ := mem_getD he
      rw [h2 i hi] at hb; cases hb
def Pr (r : Bool) (w : World) (e : Ending) (w' : World) : Prop := e = .returned (.bool r) ∧ Below w.heap.size w w'
set_option maxRecDepth 100000 in
set_option maxHeartbeats 1600000 in
theorem prot_any (x : It) (v u : Value) (A P : List Int) (w : World) (hv : IS w v A) (hu : IS w u P) (la : A.length ≤ 1000) (lp : P.length ≤ 1000) (hx : I64 x.1) (op : OkL P) : Calls Try.prog 22 #[itV x, v, u] w (Pr (protB A P x) w) := by
  have HV := Lib.hid hv
  have HU := Lib.hid hu
  have HX := Lib.hid hx
  have OP := Lib.hid op
  obtain ⟨a1, c1, rfl⟩ := hv.form
  obtain ⟨a2, c2, rfl⟩ := hu.form
  clear hv hu hx op
  obtain ⟨n, hn⟩ : ∃ n, A.length = n := ⟨_, rfl⟩
  obtain ⟨m, hm⟩ : ∃ n, P.length = n := ⟨_, rfl⟩
  rw [hn] at HV la ⊢
  rw [hm] at HU lp ⊢
  have HN := Lib.hid hn
  have HM := Lib.hid hm
  clear hn hm
  have HIT := Lib.hid (protB_iff A P x)
  have HNO := Lib.hid (@protB_no A P x)
  obtain ⟨r, hr⟩ : ∃ r, protB A P x = r := ⟨_, rfl⟩
  rw [hr] at HIT HNO ⊢
  clear hr
  have BY := Lib.hid (fun e w => byE_any x e w)
  have AT := Lib.hid (fun h w hh => atP_any x h w HX.out hh)
  obtain ⟨x0, x1, x2⟩ := x
  unfold itV at *
  simp only at *
  go_enter Try.func22, Try.ntmps22
  go_wp2_with fail
  obtain ⟨q, hq⟩ : ∃ q, w.heap.size = q := ⟨_, rfl⟩
  obtain ⟨W, hW⟩ : ∃ W, w.alloc (.cells #[.int .i64 x0, .int .i64 x1, .int .i64 x2] 26) = W := ⟨_, rfl⟩
  have B0 : Hid (Box W q #[.int .i64 x0, .int .i64 x1, .int .i64 x2] 26) := Lib.hid (by rw [← hW]; exact Box.new w _ 26 hq.symm)
  have BW : Hid (Below w.heap.size w W) := Lib.hid (by rw [← hW]; exact below1 w _)
  rw [hW, hq]
  clear hW hq
  go_loopw [13] (fun iv wr => ∃ k : Nat, k ≤ n ∧ iv = .int .i64 k ∧ (∀ i, i < k → byE (x0, x1, x2) (A.getD i 0) = false) ∧ Below W.heap.size W wr) (fun iv _ => n - (intOf iv).toNat)
  case atStart => exact ⟨0, by omega, rfl, fun i hi => by omega, Below.refl _ _⟩
  case round =>
    obtain ⟨k, hk, rfl, hno, hb⟩ := hrel
    have NO := Lib.hid hno
    have BB := Lib.hid hb
    clear hno hb
    by_cases hlt : k < n
    · obtain ⟨b, off, rfl, hbl, hc⟩ := HV.out.addr hlt
      have c0 := hc k hlt
      rw [← (BW.out.trans (BB.out.mono BW.out.size)).cell (p := ⟨b, _, none⟩) hbl] at c0
      have C0 := Lib.hid (B0.out.below BB.out)
      have y0 := C0.out.cell 0
      have y1 := C0.out.cell 1
      have y2 := C0.out.cell 2
      simp at y0 y1 y2
      have HE := Lib.hid (getD_mem (L := A) (k := k) (by rw [HN.out]; exact hlt))
      clear hc
      obtain ⟨y, hy⟩ : ∃ y, A.getD k 0 = y := ⟨_, rfl⟩
      rw [hy] at c0 HE
      have HY := Lib.hid hy
      clear hy
      have CY := Lib.hid (BY.out y wr)
      obtain ⟨s, hs⟩ : ∃ s, byE (x0, x1, x2) y = s := ⟨_, rfl⟩
      rw [hs] at CY
      have HS := Lib.hid hs
      clear hs
      go_wp2_with fail
      refine CY.out.mono ?_
      rintro e w1 ⟨rfl, hb⟩
      replace BB := Lib.hid (BB.out.trans (hb.mono BB.out.size))
      clear hb CY y0 y1 y2 c0
      cases s with
      | true =>
        have e : Hid (r = true) := Lib.hid (HIT.out.2 (.inl ⟨y, HE.out, HS.out⟩))
        go_wp2_with fail
        go_ret
        exact ⟨by rw [e.out]; rfl, BW.out.trans (BB.out.mono BW.out.size)⟩
      | false =>
        go_wp2_with fail
        go_roundw
        case rel =>
          refine ⟨k + 1, by omega, by go_num, fun i hi => ?_, BB.out⟩
          by_cases e : i = k
          · subst e; rw [HY.out]; exact HS.out
          · exact NO.out i (by omega)
        case measure => simp [intOf]; omega
    · obtain rfl : k = n := by omega
      have BV2 := Lib.hid (BW.out.trans (BB.out.mono BW.out.size))
      go_wp2_with fail
      obtain ⟨wo, rfl⟩ : ∃ wo, wo = wr := ⟨_, rfl⟩
      go_loopw [23] (fun iv wr => ∃ j : Nat, j ≤ m ∧ iv = .int .i64 j ∧ (∀ i, i < j → atP (x0, x1, x2) (P.getD i 0) = false) ∧ Below wo.heap.size wo wr) (fun iv _ => m - (intOf iv).toNat)
      case atStart => exact ⟨0, by omega, rfl, fun i hi => by omega, Below.refl _ _⟩
      case round =>
        obtain ⟨j, hj, rfl, hno, hb⟩ := hrel
        have NO2 := Lib.hid hno
        have B2 := Lib.hid hb
        clear hno hb
        by_cases hlt2 : j < m
        · obtain ⟨b, off, rfl, hbl, hc⟩ := HU.out.addr hlt2
          have c0 := hc j hlt2
          rw [← (BV2.out.trans (B2.out.mono BV2.out.size)).cell (p := ⟨b, _, none⟩) hbl] at c0
          have C0 := Lib.hid ((B0.out.below BB.out).below B2.out)
          have y0 := C0.out.cell 0
          have y1 := C0.out.cell 1
          have y2 := C0.out.cell 2
          simp at y0 y1 y2
          have HE := Lib.hid (getD_mem (L := P) (k := j) (by rw [HM.out]; exact hlt2))
          clear hc
          obtain ⟨y, hy⟩ : ∃ y, P.getD j 0 = y := ⟨_, rfl⟩
          rw [hy] at c0 HE
          have HY := Lib.hid hy
          clear hy
          have CY := Lib.hid (AT.out y wr (OP.out y HE.out))
          obtain ⟨s, hs⟩ : ∃ s, atP (x0, x1, x2) y = s := ⟨_, rfl⟩
          rw [hs] at CY
          have HS := Lib.hid hs
          clear hs
          go_wp2_with fail
          refine CY.out.mono ?_
          rintro e w1 ⟨rfl, hb⟩
          replace B2 := Lib.hid (B2.out.trans (hb.mono B2.out.size))
          clear hb CY y0 y1 y2 c0
          cases s with
          | true =>
            have e : Hid (r = true) := Lib.hid (HIT.out.2 (.inr ⟨y, HE.out, HS.out⟩))
            go_wp2_with fail
            go_ret
            exact ⟨by rw [e.out]; rfl, BV2.out.trans (B2.out.mono BV2.out.size)⟩
          | false =>
            go_wp2_with fail
            go_roundw
            case rel =>
              refine ⟨j + 1, by omega, by go_num, fun i hi => ?_, B2.out⟩
              by_cases e : i = j
              · subst e; rw [HY.out]; exact HS.out
              · exact NO2.out i (by omega)
            case measure => simp [intOf]; omega
        · obtain rfl : j = m := by omega
          have e : Hid (r = false) := Lib.hid (HNO.out (by rw [HN.out]; exact NO.out) (by rw [HM.out]; exact NO2.out))
          go_wp2_with fail
          go_ret
          exact ⟨by rw [e.out]; rfl, BV2.out.trans (B2.out.mono BV2.out.size)⟩
def cntE (e : Int) (L : List It) : Nat := L.countP (fun x => byE x e)
theorem cntE_succ (e : Int) (L : List It) {k : Nat} (h : k < L.length) : cntE e (L.take (k + 1)) = cntE e (L.take k) + if byE (L.getD k zIt) e = true then 1 else 0 := by
  unfold cntE
  rw [take_succ_getD3 L h, List.countP_append]
  simp [List.countP_cons]
theorem cntE_le (e : Int) (L : List It) : cntE e L ≤ L.length := List.countP_le_length
set_option maxRecDepth 100000 in
set_option maxHeartbeats 1600000 in
theorem count_any (e : Int) (v : Value) (L : List It) (w : World) (h : PS w v L) (hl : L.length ≤ 1000) : Calls Try.prog 26 #[.int .i64 e, v] w fun en w' => en = .returned (.int .i64 (cntE e L)) ∧ Below w.heap.size w w' := by
  have P := Lib.hid h
  obtain ⟨a, cap, rfl⟩ := h.form
  clear h
  obtain ⟨n, hn⟩ : ∃ n, L.length = n := ⟨_, rfl⟩
  rw [hn] at hl P ⊢
  have HN := Lib.hid hn
  clear hn
  go_enter Try.func26, Try.ntmps26
  go_wp2_with fail
  go_loopw [5, 10] (fun nv iv wr => ∃ k : Nat, k ≤ n ∧ iv = .int .i64 k ∧ nv = .int .i64 (cntE e (L.take k)) ∧ Below w.heap.size w wr) (fun _ iv _ => n - (intOf iv).toNat)
  case atStart => exact ⟨0, by omega, rfl, by simp [cntE], Below.refl _ _⟩
  case round =>
    obtain ⟨k, hk, rfl, rfl, hb⟩ := hrel
    have BB := Lib.hid hb
    have hsz := hb.size
    have hcl := cntE_le e (L.take k)
    rw [List.length_take] at hcl
    have hcl2 : cntE e (L.take k) ≤ 1000 := by omega
    clear hb hcl
    by_cases hlt : k < n
    · obtain ⟨b, off, rfl, hbl, hc⟩ := P.out.addr hlt
      obtain ⟨c0, c1, c2⟩ := hc k hlt
      rw [← BB.out.cell (p := ⟨b, _, none⟩) hbl] at c0 c1 c2
      have HS := Lib.hid (cntE_succ e L (k := k) (by rw [HN.out]; exact hlt))
      clear hc
      obtain ⟨y, hy⟩ : ∃ y, L.getD k zIt = y := ⟨_, rfl⟩
      rw [hy] at c0 c1 c2 HS
      clear hy
      have CY := Lib.hid (fun w => byE_any y e w)
      obtain ⟨s, hs⟩ : ∃ s, byE y e = s := ⟨_, rfl⟩
      rw [hs] at CY HS
      clear hs
      obtain ⟨y0, y1, y2⟩ := y
      unfold itV at CY
      simp only at c0 c1 c2 CY
      obtain ⟨c, hcc⟩ : ∃ c, cntE e (L.take k) = c := ⟨_, rfl⟩
      rw [hcc] at HS hcl2
      try rw [hcc]
      clear hcc
      have BW := Lib.hid (BB.out.alloc hsz (.cells #[.int .i64 y0, .int .i64 y1, .int .i64 y2] 26))
      go_wp2_with fail
      refine (CY.out _).mono ?_
      rintro en w1 ⟨rfl, hb⟩
      replace BW := Lib.hid (BW.out.trans (hb.mono BW.out.size))
      clear hb CY c0 c1 c2 BB
      cases s with
      | true =>
        go_wp2_with fail
        go_roundw
        case rel => exact ⟨k + 1, by omega, by go_num, by rw [HS.out]; simp, BW.out⟩
        case measure => simp [intOf]; omega
      | false =>
        go_wp2_with fail
        go_roundw
        case rel => exact ⟨k + 1, by omega, by go_num, by rw [HS.out]; simp, BW.out⟩
        case measure => simp [intOf]; omega
    · obtain rfl : k = n := by omega
      have HT : Hid (L.take k = L) := Lib.hid (List.take_of_length_le (by rw [HN.out]; exact Nat.le_refl _))
      rw [HT.out]
      go_wp2_with fail
      go_ret
      exact ⟨rfl, BB.out⟩
def anyP (h : Int) (L : List It) : Bool := L.any (fun x => atP x h)
theorem anyP_iff (h : Int) (L : List It) : anyP h L = true ↔ ∃ x ∈ L, atP x h = true := by unfold anyP; simp
set_option maxRecDepth 100000 in
set_option maxHeartbeats 1600000 in
theorem anyAt_any (h : Int) (v : Value) (L : List It) (w : World) (hv : PS w v L) (hl : L.length ≤ 1000) (hh : I64 h) (hL : ∀ x ∈ L, I64 x.1) : Calls Try.prog 27 #[.int .i64 h, v] w (Pr (anyP h L) w) := by
  have P := Lib.hid hv
  obtain ⟨a, cap, rfl⟩ := hv.form
  have HH := Lib.hid hh
  have HL := Lib.hid hL
  clear hv hh hL
  obtain ⟨n, hn⟩ : ∃ n, L.length = n := ⟨_, rfl⟩
  rw [hn] at hl P ⊢
  have HN := Lib.hid hn
  clear hn
  have HIT := Lib.hid (anyP_iff h L)
  obtain ⟨r, hr⟩ : ∃ r, anyP h L = r := ⟨_, rfl⟩
  rw [hr] at HIT ⊢
  clear hr
  go_enter Try.func27, Try.ntmps27
  go_wp2_with fail
  go_loopw [9] (fun iv wr => ∃ k : Nat, k ≤ n ∧ iv = .int .i64 k ∧ (∀ i, i < k → atP (L.getD i zIt) h = false) ∧ Below w.heap.size w wr) (fun iv _ => n - (intOf iv).toNat)
  case atStart => exact ⟨0, by omega, rfl, fun i hi => by omega, Below.refl _ _⟩
  case round =>
    obtain ⟨k, hk, rfl, hno, hb⟩ := hrel
    have NO := Lib.hid hno
    have BB := Lib.hid hb
    have hsz := hb.size
    clear hb hno
    by_cases hlt : k < n
    · obtain ⟨b, off, rfl, hbl, hc⟩ := P.out.addr hlt
      obtain ⟨c0, c1, c2⟩ := hc k hlt
      rw [← BB.out.cell (p := ⟨b, _, none⟩) hbl] at c0 c1 c2
      have HM := Lib.hid (getD_mem3 (L := L) (k := k) (by rw [HN.out]; exact hlt))
      clear hc
      obtain ⟨y, hy⟩ : ∃ y, L.getD k zIt = y := ⟨_, rfl⟩
      rw [hy] at c0 c1 c2 HM
      have HY := Lib.hid hy
      clear hy
      have CY := Lib.hid (fun w => atP_any y h w (HL.out y HM.out) HH.out)
      obtain ⟨s, hs⟩ : ∃ s, atP y h = s := ⟨_, rfl⟩
      rw [hs] at CY
      have HS := Lib.hid hs
      clear hs
      obtain ⟨y0, y1, y2⟩ := y
      unfold itV at CY
      simp only at c0 c1 c2 CY
      have BW := Lib.hid (BB.out.alloc hsz (.cells #[.int .i64 y0, .int .i64 y1, .int .i64 y2] 26))
      go_wp2_with fail
      refine (CY.out _).mono ?_
      rintro en w1 ⟨rfl, hb⟩
      replace BW := Lib.hid (BW.out.trans (hb.mono BW.out.size))
      clear hb CY c0 c1 c2 BB
      cases s with
      | true =>
        have e : Hid (r = true) := Lib.hid (HIT.out.2 ⟨_, HM.out, HS.out⟩)
        go_wp2_with fail
        go_ret
        exact ⟨by rw [e.out]; rfl, BW.out⟩
      | false =>
        go_wp2_with fail
        go_roundw
        case rel =>
          refine ⟨k + 1, by omega, by go_num, fun i hi => ?_, BW.out⟩
          by_cases e : i = k
          · subst e; rw [HY.out]; exact HS.out
          · exact NO.out i (by omega)
        case measure => simp [intOf]; omega
    · obtain rfl : k = n := by omega
      have e : Hid (r = false) := Lib.hid (by
        cases hr : r with
        | false => rfl
        | true =>
          obtain ⟨z, hz, hb⟩ := HIT.out.1 hr
          obtain ⟨i, hi, rfl⟩ := mem_getD3 hz
          rw [NO.out i (by rw [HN.out] at hi; exact hi)] at hb; cases hb)
      go_wp2_with fail
      go_ret
      exact ⟨by rw [e.out]; rfl, BB.out⟩
end Go.Proofs.Ytknnnjnnphdipaa
