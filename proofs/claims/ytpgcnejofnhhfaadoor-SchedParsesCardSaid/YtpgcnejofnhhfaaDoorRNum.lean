/- number of the reference, at every string. -/
import Derived.Test.YtpgcnejofnhhfaaDoorReadPlain
import Derived.Deep.LoopGhost
namespace Go.Proofs.YtpgcnejofnhhfaaDoor
open Go.ChangeShapes Go.WideShapes Go.ChangeAt Go.RowKit

/-- The number behind k digits. -/
def numT (L : List UInt8) (k : Nat) : Int × Int := (L.take k).foldl stepN (0, 0)
theorem numT_succ (L : List UInt8) {k : Nat} (h : k < L.length) : numT L (k + 1) = stepN (numT L k) L[k] := by
  unfold numT
  rw [List.take_succ_eq_append_getElem h, List.foldl_append]; rfl
theorem all_dig {l : List UInt8} (h : l.all digB = true) : ∀ c ∈ l, IsDig c := fun c hc => by
  have := List.all_eq_true.1 h c hc
  unfold digB at this
  simpa [IsDig] using this
theorem numT_bd (L : List UInt8) (k : Nat) (h : (L.take k).all digB = true) : 0 ≤ (numT L k).1 ∧ (numT L k).1 ≤ 1099511627776 := by
  have := stepN_val (L.take k) 0 (all_dig h) (by omega)
  unfold numT
  rw [show ((0 : Int), (0 : Int)) = (((0 : Nat) : Int), 0) from rfl, this]
  split
  · simp only; omega
  · simp only; omega
def posR (L : List UInt8) : Int × Int := if L.all digB = true then numU L else (0, 5)
def negR (L : List UInt8) : Int × Int := if L.all digB = true then (-(numU L).1, (numU L).2) else (0, 5)
theorem posR_yes {L : List UInt8} (h : L.all digB = true) : posR L = numU L := by unfold posR; rw [if_pos h]
theorem posR_no {L : List UInt8} (h : L.all digB = false) : posR L = (0, 5) := by unfold posR; rw [if_neg (by rw [h]; decide)]
theorem negR_yes {L : List UInt8} (h : L.all digB = true) : negR L = (-(numU L).1, (numU L).2) := by unfold negR; rw [if_pos h]
theorem negR_no {L : List UInt8} (h : L.all digB = false) : negR L = (0, 5) := by unfold negR; rw [if_neg (by rw [h]; decide)]
def NumP (r : Int × Int) (w : World) (e : Ending) (w' : World) : Prop := e = .returned (.tuple #[.int .i64 r.1, .int .i64 r.2]) ∧ w = w'
set_option maxRecDepth 100000 in
set_option maxHeartbeats 1600000 in
theorem num_pos (c : UInt8) (r : List UInt8) (w : World) (hl : r.length ≤ 3000) (hne : ¬ c.toNat = 45) (h48 : c.toNat = 48 → r = []) : Calls Tryd.prog 44 #[.string ⟨(c :: r).toArray⟩] w (NumP (posR (c :: r)) w) := by
  obtain ⟨d, hd⟩ : ∃ d : ByteArray, (⟨(c :: r).toArray⟩ : ByteArray) = d := ⟨_, rfl⟩
  obtain ⟨L, hL⟩ : ∃ L, c :: r = L := ⟨_, rfl⟩
  have hLe : (L == ([] : List UInt8)) = false := by rw [← hL]; rfl
  have hLn : L.length = r.length + 1 := by rw [← hL]; rfl
  rw [hd, hL]
  rw [hL] at hd
  have hdl : d.data.toList = L := by rw [← hd]
  have hds : d.size = L.length := by rw [← hd]; simp [ByteArray.size]
  have hge : ∀ k (h : k < d.size) (h2 : k < L.length), d[k] = L[k] := by subst hd; intro k h h2; rfl
  have hnil : (d.toList == ([] : List UInt8)) = false := by rw [ByteArray.toList_eq, hdl]; exact hLe
  have hpos : 0 < d.size := by omega
  have hz : d[0]'hpos = c := by rw [hge 0 hpos (by omega)]; subst hL; rfl
  have hposI : (0 : Int) < d.size := by omega
  have HG := Lib.hid hge
  have hq : ((c.toNat : Int) == 45) = false := by rw [beq_eq_false_iff_ne]; omega
  have HSZ := Lib.hid hds
  clear hge hd hL hdl hne
  have hsz : d.size ≤ 3001 := by omega
  unfold NumP
  by_cases h0 : c.toNat = 48
  · have hr := h48 h0
    have hq8 : ((c.toNat : Int) == 48) = true := by rw [h0]; rfl
    have h1 : ¬ (1 : Int) < d.size := by rw [hr] at hLn; simp at hLn; omega
    clear h48 h0 hr
    go_enter Tryd.func44, Tryd.ntmps44
    go_wp2_with fail
    clear hq8 h1 hq hz hLe hnil
    replace hds := HSZ.out
    go_loopw [5, 6, 7] (fun nv cv iv wr => ∃ k : Nat, k ≤ d.size ∧ iv = .int .i64 k ∧ (L.take k).all digB = true ∧ nv = .int .i64 (numT L k).1 ∧ cv = .int .i64 (numT L k).2 ∧ wr = w) (fun _ _ iv _ => d.size - (intOf iv).toNat)
    case atStart => exact ⟨0, by omega, rfl, by simp, rfl, rfl, rfl⟩
    case round =>
      obtain ⟨k, hk, rfl, ha, rfl, rfl, rfl⟩ := hrel
      have HA := Lib.hid ha
      clear ha
      have hbd := numT_bd L k HA.out
      by_cases hlt : k < d.size
      · have hge := HG.out k hlt (by omega)
        have HT := Lib.hid (numT_succ L (k := k) (by omega))
        have HTA := Lib.hid (all_take_succ L (k := k) (by omega))
        have HAF := Lib.hid (all_false L (k := k) (by omega))
        obtain ⟨b, hb⟩ : ∃ b, L[k]'(by omega) = b := ⟨_, rfl⟩
        rw [hb] at hge HT HTA HAF
        clear hb
        obtain ⟨x, hx⟩ : ∃ x : Nat, b.toNat = x := ⟨_, rfl⟩
        have hx256 : x < 256 := by rw [← hx]; exact b.toNat_lt
        have HX := Lib.hid hx
        by_cases h1 : x < 48
        · have HAL := Lib.hid (HAF.out (by unfold digB; rw [HX.out]; simp; omega))
          have h1' : (x : Int) < 48 := by omega
          go_wp2_with fail
          go_ret2
          exact ⟨by rw [posR_no HAL.out]; rfl, by first | rfl | trivial⟩
        · by_cases h2 : 57 < x
          · have HAL := Lib.hid (HAF.out (by unfold digB; rw [HX.out]; simp; omega))
            have h2' : (57 : Int) < x := by omega
            have h1' : ¬ (x : Int) < 48 := by omega
            go_wp2_with fail
            go_ret2
            exact ⟨by rw [posR_no HAL.out]; rfl, by first | rfl | trivial⟩
          · have HAL := Lib.hid (show (L.take (k + 1)).all digB = true by rw [HTA.out, HA.out]; unfold digB; rw [HX.out]; simp; omega)
            have h1' : ¬ (x : Int) < 48 := by omega
            have h2' : ¬ (57 : Int) < x := by omega
            obtain ⟨⟨n, cc⟩, hN⟩ : ∃ z, numT L k = z := ⟨_, rfl⟩
            rw [hN] at hbd ⊢
            simp only at hbd ⊢
            by_cases hbig : 1099511627776 < 10 * n + (x : Int) - 48
            · have HV : Hid (numT L (k + 1) = (1099511627776, 3)) := Lib.hid (by rw [HT.out, hN]; unfold stepN; rw [HX.out]; rw [if_pos hbig])
              clear hN
              go_wp2_with fail
              go_roundw
              case rel => exact ⟨k + 1, by omega, by go_num, HAL.out, by rw [HV.out], by rw [HV.out], by first | rfl | trivial⟩
              case measure => simp [intOf]; omega
            · have HV : Hid (numT L (k + 1) = (10 * n + (x : Int) - 48, cc)) := Lib.hid (by rw [HT.out, hN]; unfold stepN; rw [HX.out]; rw [if_neg hbig])
              clear hN
              go_wp2_with fail
              go_roundw
              case rel => exact ⟨k + 1, by omega, by go_num, HAL.out, by rw [HV.out], by rw [HV.out], by first | rfl | trivial⟩
              case measure => simp [intOf]; omega
      · have hkn : k = L.length := by omega
        have HAL := Lib.hid (show L.all digB = true by have := HA.out; rw [hkn, List.take_length] at this; exact this)
        have HV := Lib.hid (show numT L k = numU L by unfold numT numU; rw [hkn, List.take_length])
        rw [HV.out] at hbd ⊢
        clear hkn
        obtain ⟨nu, hnu⟩ : ∃ z, numU L = z := ⟨_, rfl⟩
        rw [hnu] at hbd ⊢
        have HNU := Lib.hid hnu
        clear hnu
        go_wp2_with fail
        go_ret2
        exact ⟨by rw [posR_yes HAL.out, HNU.out]; rfl, by first | rfl | trivial⟩
  · have hq8 : ((c.toNat : Int) == 48) = false := by rw [beq_eq_false_iff_ne]; omega
    clear h48 h0
    go_enter Tryd.func44, Tryd.ntmps44
    go_wp2_with fail
    clear hq8 hq hz hLe hnil
    replace hds := HSZ.out
    go_loopw [5, 6, 7] (fun nv cv iv wr => ∃ k : Nat, k ≤ d.size ∧ iv = .int .i64 k ∧ (L.take k).all digB = true ∧ nv = .int .i64 (numT L k).1 ∧ cv = .int .i64 (numT L k).2 ∧ wr = w) (fun _ _ iv _ => d.size - (intOf iv).toNat)
    case atStart => exact ⟨0, by omega, rfl, by simp, rfl, rfl, rfl⟩
    case round =>
      obtain ⟨k, hk, rfl, ha, rfl, rfl, rfl⟩ := hrel
      have HA := Lib.hid ha
      clear ha
      have hbd := numT_bd L k HA.out
      by_cases hlt : k < d.size
      · have hge := HG.out k hlt (by omega)
        have HT := Lib.hid (numT_succ L (k := k) (by omega))
        have HTA := Lib.hid (all_take_succ L (k := k) (by omega))
        have HAF := Lib.hid (all_false L (k := k) (by omega))
        obtain ⟨b, hb⟩ : ∃ b, L[k]'(by omega) = b := ⟨_, rfl⟩
        rw [hb] at hge HT HTA HAF
        clear hb
        obtain ⟨x, hx⟩ : ∃ x : Nat, b.toNat = x := ⟨_, rfl⟩
        have hx256 : x < 256 := by rw [← hx]; exact b.toNat_lt
        have HX := Lib.hid hx
        by_cases h1 : x < 48
        · have HAL := Lib.hid (HAF.out (by unfold digB; rw [HX.out]; simp; omega))
          have h1' : (x : Int) < 48 := by omega
          go_wp2_with fail
          go_ret2
          exact ⟨by rw [posR_no HAL.out]; rfl, by first | rfl | trivial⟩
        · by_cases h2 : 57 < x
          · have HAL := Lib.hid (HAF.out (by unfold digB; rw [HX.out]; simp; omega))
            have h2' : (57 : Int) < x := by omega
            have h1' : ¬ (x : Int) < 48 := by omega
            go_wp2_with fail
            go_ret2
            exact ⟨by rw [posR_no HAL.out]; rfl, by first | rfl | trivial⟩
          · have HAL := Lib.hid (show (L.take (k + 1)).all digB = true by rw [HTA.out, HA.out]; unfold digB; rw [HX.out]; simp; omega)
            have h1' : ¬ (x : Int) < 48 := by omega
            have h2' : ¬ (57 : Int) < x := by omega
            obtain ⟨⟨n, cc⟩, hN⟩ : ∃ z, numT L k = z := ⟨_, rfl⟩
            rw [hN] at hbd ⊢
            simp only at hbd ⊢
            by_cases hbig : 1099511627776 < 10 * n + (x : Int) - 48
            · have HV : Hid (numT L (k + 1) = (1099511627776, 3)) := Lib.hid (by rw [HT.out, hN]; unfold stepN; rw [HX.out]; rw [if_pos hbig])
              clear hN
              go_wp2_with fail
              go_roundw
              case rel => exact ⟨k + 1, by omega, by go_num, HAL.out, by rw [HV.out], by rw [HV.out], by first | rfl | trivial⟩
              case measure => simp [intOf]; omega
            · have HV : Hid (numT L (k + 1) = (10 * n + (x : Int) - 48, cc)) := Lib.hid (by rw [HT.out, hN]; unfold stepN; rw [HX.out]; rw [if_neg hbig])
              clear hN
              go_wp2_with fail
              go_roundw
              case rel => exact ⟨k + 1, by omega, by go_num, HAL.out, by rw [HV.out], by rw [HV.out], by first | rfl | trivial⟩
              case measure => simp [intOf]; omega
      · have hkn : k = L.length := by omega
        have HAL := Lib.hid (show L.all digB = true by have := HA.out; rw [hkn, List.take_length] at this; exact this)
        have HV := Lib.hid (show numT L k = numU L by unfold numT numU; rw [hkn, List.take_length])
        rw [HV.out] at hbd ⊢
        clear hkn
        obtain ⟨nu, hnu⟩ : ∃ z, numU L = z := ⟨_, rfl⟩
        rw [hnu] at hbd ⊢
        have HNU := Lib.hid hnu
        clear hnu
        go_wp2_with fail
        go_ret2
        exact ⟨by rw [posR_yes HAL.out, HNU.out]; rfl, by first | rfl | trivial⟩
set_option maxRecDepth 100000 in
set_option maxHeartbeats 1600000 in
theorem num_neg (c : UInt8) (r : List UInt8) (w : World) (hl : r.length ≤ 3000) (h48 : ¬ c.toNat = 48) : Calls Tryd.prog 44 #[.string ⟨(45 :: c :: r).toArray⟩] w (NumP (negR (c :: r)) w) := by
  obtain ⟨d0, hd0⟩ : ∃ d : ByteArray, (⟨(45 :: c :: r).toArray⟩ : ByteArray) = d := ⟨_, rfl⟩
  obtain ⟨d, hd⟩ : ∃ d : ByteArray, (⟨(c :: r).toArray⟩ : ByteArray) = d := ⟨_, rfl⟩
  have hex : d0.extract 1 d0.size = d := by
    rw [← hd]
    apply bytes_of
    rw [Lib.extract_toList, ← hd0]
    simp [ByteArray.size]
  have hs0 : d0.size = r.length + 2 := by rw [← hd0]; simp [ByteArray.size]
  have hpos0 : 0 < d0.size := by omega
  have hz0 : d0[0]'hpos0 = 45 := by subst hd0; rfl
  have hpos0I : (0 : Int) < d0.size := by omega
  have h10 : (1 : Int) ≤ d0.size := by omega
  rw [hd0]
  clear hd0
  obtain ⟨L, hL⟩ : ∃ L, c :: r = L := ⟨_, rfl⟩
  have hLe : (L == ([] : List UInt8)) = false := by rw [← hL]; rfl
  have hLn : L.length = r.length + 1 := by rw [← hL]; rfl
  rw [hL]
  rw [hL] at hd
  have hdl : d.data.toList = L := by rw [← hd]
  have hds : d.size = L.length := by rw [← hd]; simp [ByteArray.size]
  have hge : ∀ k (h : k < d.size) (h2 : k < L.length), d[k] = L[k] := by subst hd; intro k h h2; rfl
  have hnil : (d.toList == ([] : List UInt8)) = false := by rw [ByteArray.toList_eq, hdl]; exact hLe
  have hpos : 0 < d.size := by omega
  have hz : d[0]'hpos = c := by rw [hge 0 hpos (by omega)]; subst hL; rfl
  have hposI : (0 : Int) < d.size := by omega
  have HG := Lib.hid hge
  have HSZ := Lib.hid hds
  have hq8 : ((c.toNat : Int) == 48) = false := by rw [beq_eq_false_iff_ne]; omega
  have hsz0 : d0.size ≤ 3002 := by omega
  clear hge hd hL hdl hds hs0 h48
  have hsz : d.size ≤ 3001 := by have := HSZ.out; omega
  unfold NumP
  go_enter Tryd.func44, Tryd.ntmps44
  go_wp2_with fail

  have hds := HSZ.out
  clear hq8 hz hLe hnil hex hz0
  go_loopw [5, 6, 7] (fun nv cv iv wr => ∃ k : Nat, k ≤ d.size ∧ iv = .int .i64 k ∧ (L.take k).all digB = true ∧ nv = .int .i64 (numT L k).1 ∧ cv = .int .i64 (numT L k).2 ∧ wr = w) (fun _ _ iv _ => d.size - (intOf iv).toNat)
  case atStart => exact ⟨0, by omega, rfl, by simp, rfl, rfl, rfl⟩
  case round =>
    obtain ⟨k, hk, rfl, ha, rfl, rfl, rfl⟩ := hrel
    have HA := Lib.hid ha
    clear ha
    have hbd := numT_bd L k HA.out
    by_cases hlt : k < d.size
    · have hge := HG.out k hlt (by omega)
      have HT := Lib.hid (numT_succ L (k := k) (by omega))
      have HTA := Lib.hid (all_take_succ L (k := k) (by omega))
      have HAF := Lib.hid (all_false L (k := k) (by omega))
      obtain ⟨b, hb⟩ : ∃ b, L[k]'(by omega) = b := ⟨_, rfl⟩
      rw [hb] at hge HT HTA HAF
      clear hb
      obtain ⟨x, hx⟩ : ∃ x : Nat, b.toNat = x := ⟨_, rfl⟩
      have hx256 : x < 256 := by rw [← hx]; exact b.toNat_lt
      have HX := Lib.hid hx
      by_cases h1 : x < 48
      · have HAL := Lib.hid (HAF.out (by unfold digB; rw [HX.out]; simp; omega))
        have h1' : (x : Int) < 48 := by omega
        go_wp2_with fail
        go_ret2
        exact ⟨by rw [negR_no HAL.out]; rfl, by first | rfl | trivial⟩
      · by_cases h2 : 57 < x
        · have HAL := Lib.hid (HAF.out (by unfold digB; rw [HX.out]; simp; omega))
          have h2' : (57 : Int) < x := by omega
          have h1' : ¬ (x : Int) < 48 := by omega
          go_wp2_with fail
          go_ret2
          exact ⟨by rw [negR_no HAL.out]; rfl, by first | rfl | trivial⟩
        · have HAL := Lib.hid (show (L.take (k + 1)).all digB = true by rw [HTA.out, HA.out]; unfold digB; rw [HX.out]; simp; omega)
          have h1' : ¬ (x : Int) < 48 := by omega
          have h2' : ¬ (57 : Int) < x := by omega
          obtain ⟨⟨n, cc⟩, hN⟩ : ∃ z, numT L k = z := ⟨_, rfl⟩
          rw [hN] at hbd ⊢
          simp only at hbd ⊢
          by_cases hbig : 1099511627776 < 10 * n + (x : Int) - 48
          · have HV : Hid (numT L (k + 1) = (1099511627776, 3)) := Lib.hid (by rw [HT.out, hN]; unfold stepN; rw [HX.out]; rw [if_pos hbig])
            clear hN
            go_wp2_with fail
            go_roundw
            case rel => exact ⟨k + 1, by omega, by go_num, HAL.out, by rw [HV.out], by rw [HV.out], by first | rfl | trivial⟩
            case measure => simp [intOf]; omega
          · have HV : Hid (numT L (k + 1) = (10 * n + (x : Int) - 48, cc)) := Lib.hid (by rw [HT.out, hN]; unfold stepN; rw [HX.out]; rw [if_neg hbig])
            clear hN
            go_wp2_with fail
            go_roundw
            case rel => exact ⟨k + 1, by omega, by go_num, HAL.out, by rw [HV.out], by rw [HV.out], by first | rfl | trivial⟩
            case measure => simp [intOf]; omega
    · have hkn : k = L.length := by omega
      have HAL := Lib.hid (show L.all digB = true by have := HA.out; rw [hkn, List.take_length] at this; exact this)
      have HV := Lib.hid (show numT L k = numU L by unfold numT numU; rw [hkn, List.take_length])
      rw [HV.out] at hbd ⊢
      clear hkn
      obtain ⟨nu, hnu⟩ : ∃ z, numU L = z := ⟨_, rfl⟩
      rw [hnu] at hbd ⊢
      have HNU := Lib.hid hnu
      clear hnu
      go_wp2_with fail
      go_ret2
      exact ⟨by rw [negR_yes HAL.out, HNU.out]; rfl, by first | rfl | trivial⟩
theorem all_digs {c : UInt8} {r : List UInt8} (h : ¬ c.toNat = 48) : digsL (c :: r) = (c :: r).all digB := by simp [digsL, h]
theorem num_empty (w : World) : Calls Tryd.prog 44 #[.string ⟨#[]⟩] w (NumP (0, 5) w) := by
  unfold NumP
  go_enter Tryd.func44, Tryd.ntmps44
  go_wp2_with fail
  go_ret2
  exact ⟨rfl, rfl⟩
theorem num_minus (w : World) : Calls Tryd.prog 44 #[.string ⟨#[45]⟩] w (NumP (0, 5) w) := by
  have hex : (⟨#[45]⟩ : ByteArray).extract 1 1 = ⟨#[]⟩ := by decide +kernel
  unfold NumP
  go_enter Tryd.func44, Tryd.ntmps44
  go_wp2_with fail
  go_ret2
  exact ⟨rfl, rfl⟩
theorem num_lead (r : List UInt8) (c : UInt8) (w : World) (h0 : c.toNat = 48) (hr : r ≠ []) (hl : r.length ≤ 3000) : Calls Tryd.prog 44 #[.string ⟨(c :: r).toArray⟩] w (NumP (0, 5) w) := by
  have hrl : 1 ≤ r.length := by cases r with | nil => exact absurd rfl hr | cons a b => simp
  obtain ⟨d, hd⟩ : ∃ d : ByteArray, (⟨(c :: r).toArray⟩ : ByteArray) = d := ⟨_, rfl⟩
  have hds : d.size = r.length + 1 := by rw [← hd]; simp [ByteArray.size]
  have hdl : d.data.toList = c :: r := by rw [← hd]
  have hpos : 0 < d.size := by omega
  have hz : d[0]'hpos = c := by subst hd; rfl
  have hnil : (d.toList == ([] : List UInt8)) = false := by rw [ByteArray.toList_eq, hdl]; rfl
  have hposI : (0 : Int) < d.size := by omega
  have h1 : (1 : Int) < d.size := by omega
  have hq : ((c.toNat : Int) == 45) = false := by rw [h0]; rfl
  have hq8 : ((c.toNat : Int) == 48) = true := by rw [h0]; rfl
  rw [hd]
  clear hd hds hdl h0
  unfold NumP
  go_enter Tryd.func44, Tryd.ntmps44
  go_wp2_with fail
  go_ret2
  exact ⟨rfl, rfl⟩
theorem num_mlead (r : List UInt8) (c : UInt8) (w : World) (h0 : c.toNat = 48) (hl : r.length ≤ 3000) : Calls Tryd.prog 44 #[.string ⟨(45 :: c :: r).toArray⟩] w (NumP (0, 5) w) := by
  obtain ⟨d0, hd0⟩ : ∃ d : ByteArray, (⟨(45 :: c :: r).toArray⟩ : ByteArray) = d := ⟨_, rfl⟩
  obtain ⟨d, hd⟩ : ∃ d : ByteArray, (⟨(c :: r).toArray⟩ : ByteArray) = d := ⟨_, rfl⟩
  have hex : d0.extract 1 d0.size = d := by
    rw [← hd]
    apply bytes_of
    rw [Lib.extract_toList, ← hd0]
    simp [ByteArray.size]
  have hs0 : d0.size = r.length + 2 := by rw [← hd0]; simp [ByteArray.size]
  have hpos0 : 0 < d0.size := by omega
  have hz0 : d0[0]'hpos0 = 45 := by subst hd0; rfl
  have hpos0I : (0 : Int) < d0.size := by omega
  have h10 : (1 : Int) ≤ d0.size := by omega
  have hds : d.size = r.length + 1 := by rw [← hd]; simp [ByteArray.size]
  have hdl : d.data.toList = c :: r := by rw [← hd]
  have hpos : 0 < d.size := by omega
  have hz : d[0]'hpos = c := by subst hd; rfl
  have hnil : (d.toList == ([] : List UInt8)) = false := by rw [ByteArray.toList_eq, hdl]; rfl
  have hq8 : ((c.toNat : Int) == 48) = true := by rw [h0]; rfl
  have hposI : (0 : Int) < d.size := by omega
  have hsz0 : d0.size ≤ 3002 := by omega
  have hsz : d.size ≤ 3001 := by omega
  rw [hd0]
  clear hd hd0 hds hdl h0 hs0
  unfold NumP
  by_cases h1 : (1 : Int) < d.size
  · go_enter Tryd.func44, Tryd.ntmps44
    go_wp2_with fail
    go_ret2
    exact ⟨rfl, rfl⟩
  · go_enter Tryd.func44, Tryd.ntmps44
    go_wp2_with fail
    go_ret2
    exact ⟨rfl, rfl⟩
theorem toNat_ne {c : UInt8} (h : ¬ c = 45) : ¬ c.toNat = 45 := fun e => h (UInt8.toNat_inj.1 (by simpa using e))
theorem number_any (l : List UInt8) (w : World) (hl : l.length ≤ 3000) : Calls Tryd.prog 44 #[.string ⟨l.toArray⟩] w (NumP (numL l) w) := by
  match l, hl with
  | [], _ => rw [num_no (by decide)]; exact num_empty w
  | c :: r, hl =>
    by_cases hc : c = 45
    · subst hc
      match r, hl with
      | [], _ => rw [num_no (by decide)]; exact num_minus w
      | d :: q, hl =>
        have ht : Lib.trimPrefix (45 :: d :: q) [45] = d :: q := by simp [Lib.trimPrefix, Lib.hasPrefix]
        have hb : ((45 :: d :: q : List UInt8) == [48]) = false := by rw [beq_eq_false_iff_ne]; simp
        have hcan : canL (45 :: d :: q) = digsL (d :: q) := by unfold canL; rw [ht, hb, Bool.false_or]
        by_cases h0 : d.toNat = 48
        · rw [num_no (by rw [hcan]; simp [digsL, h0])]
          exact num_mlead q d w h0 (by simp at hl; omega)
        · have e : numL (45 :: d :: q) = negR (d :: q) := by
            unfold numL negR
            rw [hcan, all_digs h0]
            simp
          rw [e]
          exact num_neg d q w (by simp at hl; omega) h0
    · have ht : Lib.trimPrefix (c :: r) [45] = c :: r := by
        unfold Lib.trimPrefix
        rw [if_neg]
        intro hp
        simp [Lib.hasPrefix] at hp
        exact hc hp.symm
      by_cases h0 : c.toNat = 48
      · have hc48 : c = 48 := UInt8.toNat_inj.1 (by simpa using h0)
        by_cases hr : r = []
        · subst hr
          have e : numL [c] = posR [c] := by
            subst hc48
            decide +kernel
          rw [e]
          exact num_pos c [] w (by simp) (toNat_ne hc) (fun _ => rfl)
        · have hb : ((c :: r) == [48]) = false := by rw [beq_eq_false_iff_ne]; simp [hr]
          rw [num_no (by unfold canL; rw [ht, hb]; simp [digsL, h0])]
          exact num_lead r c w h0 hr (by simp at hl; omega)
      · have hb : ((c :: r) == [48]) = false := by
          rw [beq_eq_false_iff_ne]
          intro e
          injection e with e1 e2
          rw [e1] at h0
          exact h0 (by decide)
        have e : numL (c :: r) = posR (c :: r) := by
          unfold numL posR canL
          rw [ht, hb, Bool.false_or, all_digs h0]
          simp [hc]
        rw [e]
        exact num_pos c r w (by simp at hl; omega) (toNat_ne hc) (fun h => absurd h h0)
end Go.Proofs.YtpgcnejofnhhfaaDoor
