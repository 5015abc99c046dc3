/- Statement LayoutMay: the walk through the law for every layout, location and holder. -/
import Derived.Test.YtgndlknlahglcaaDoorLayLaw
import Derived.Deep.Cut
namespace Go.Proofs.YtgndlknlahglcaaDoor.layoutMay
open Go.ChangeShapes Go.WideShapes Go.ChangeAt Go.RowKit Go.Maps

def Good (w : World) (e : Ending) (w' : World) : Prop := e = .returned (.bool true) ∧ Below w.heap.size w w'
/-- What the reference wants of a holder. -/
def wantR (L : List Pk) (who : Int) : Int := if 1 ≤ who ∧ who ≤ 8 then findL (7, who, 0) L 0 else if 9 ≤ who ∧ who ≤ 72 then findL (9, who - 9, 0) L 0 else -1
theorem place_slot (T C B who : Int) (h1 : 1 ≤ who) (h8 : who ≤ 8) : placeAt T C B who = findL (7, who, 0) (allI T C B) 0 := by
  unfold placeAt
  rw [if_neg (by omega), eq_slot]
theorem place_block (T C B who : Int) (h9 : 9 ≤ who) : placeAt T C B who = findL (9, who - 9, 0) (allI T C B) 0 := by
  unfold placeAt
  rw [if_pos (by omega), eq_block]
theorem place_low (T C B who : Int) (h1 : who < 1) : placeI T C B who = (-1, 0) := by
  unfold placeI placeAt threadI
  rw [if_neg (show ¬ 8 < who by omega), if_pos h1]
  rfl
theorem place_high (T C B who : Int) (h1 : 72 < who) : placeI T C B who = (-1, 0) := by
  have : placeAt T C B who = -1 := by
    unfold placeAt
    rw [if_pos (by omega)]
    by_cases h : checkI T C B = 0
    · obtain ⟨a, c, b, rfl, rfl, rfl, hok⟩ := checkI_zero h
      rw [unitI_ok hok]
      have := hok.1.2.2.2.2
      have hu : unitsL a c b 6 = b := by simp [unitsL]
      rw [hu, if_neg (by omega)]
    · rw [unitI_no h]
  unfold placeI
  rw [this]
  rfl
theorem place_neg {T C B who : Int} (h : placeAt T C B who = -1) : placeI T C B who = (-1, 0) := by
  unfold placeI
  rw [h]
  rfl
theorem place_pos {T C B who : Int} (h : 0 ≤ placeAt T C B who) (h8 : who ≤ 8) : placeI T C B who = (placeAt T C B who, 32) := by
  unfold placeI
  rw [if_neg (by omega), if_neg (show ¬ 8 < who by omega)]
theorem place_pos9 {T C B who : Int} (h : 0 ≤ placeAt T C B who) (h9 : 9 ≤ who) : placeI T C B who = (placeAt T C B who, 10) := by
  unfold placeI
  rw [if_neg (by omega), if_pos (show 8 < who by omega)]
set_option maxRecDepth 100000 in
set_option maxHeartbeats 1600000 in
theorem walk (T C B x who : Int) (w : World) (hg : Gl w) (_hx : x < 9223372036854775808) (hw : who < 9223372036854775808) : Calls Tryd.prog 5 #[LV T C B, .int .i64 x, .int .i64 who] w (Good w) := by
  have A := Lib.hid (At.box (T := T) (C := C) (B := B) hg rfl)
  have HM := Lib.hid (eq_may T C B x)
  have HLN : Hid ((allI T C B).length ≤ 100000) := Lib.hid (allI_len T C B)
  clear hg
  unfold Good
  go_enter Tryd.func5, Tryd.ntmps5
  go_wp2_with fail
  refine (lall_any T C B _ A.out.g).mono ?_
  rintro e w1 ⟨v, rfl, hps, hb⟩
  replace A := Lib.hid (A.out.below hb)
  have P := Lib.hid hps
  clear hb
  obtain ⟨va, vc, hv, hq⟩ := hps
  subst hv
  have HQ := Lib.hid hq
  clear hq
  obtain ⟨L, hL⟩ : ∃ L, allI T C B = L := ⟨_, rfl⟩
  rw [hL] at HM HLN P HQ ⊢
  have HE := Lib.hid hL
  clear hL
  go_upto_region 2 with fail
  go_cut [8] (fun s8 wx => s8 = .bool (mayI T C B x) ∧ w1 = wx)
  case first =>
    by_cases h0 : x < 0
    · have e0 : ¬ (0 : Int) ≤ x := by omega
      have HF : Hid (mayI T C B x = false) := Lib.hid (by rw [HM.out]; unfold mayR; rw [decide_eq_false e0]; rfl)
      go_wp2_with fail
      go_meet
      case rel => exact ⟨by rw [HF.out], rfl⟩
    · obtain ⟨m, rfl⟩ : ∃ m : Nat, x = m := ⟨x.toNat, by omega⟩
      by_cases hm : m < L.length
      · have HF : Hid (mayI T C B m = (decide ((L.getD m zPk).1 = 6) || decide ((L.getD m zPk).1 = 5))) := Lib.hid (by
          rw [HM.out]; unfold mayR
          rw [decide_eq_true (show (0 : Int) ≤ m by omega), decide_eq_true (show (m : Int) < (L.length : Int) by omega), Bool.true_and, Bool.true_and, Int.toNat_natCast])
        rcases HQ.out with h | ⟨b, off, rfl, hbl, hc⟩
        · rw [h] at hm; simp at hm
        obtain ⟨c0, -, -⟩ := hc m hm
        have hml : (m : Int) < (L.length : Int) := by omega
        clear hc
        generalize (L.getD m zPk).1 = k at *
        by_cases h6 : k = 6
        · subst h6
          go_wp2_with fail
          go_meet
          case rel => exact ⟨by rw [HF.out]; rfl, rfl⟩
        · have h6b : (k == 6) = false := by rw [beq_eq_false_iff_ne]; exact h6
          by_cases h5 : k = 5
          · subst h5
            clear h6 h6b
            go_wp2_with fail
            go_meet
            case rel => exact ⟨by rw [HF.out]; rfl, rfl⟩
          · have h5b : (k == 5) = false := by rw [beq_eq_false_iff_ne]; exact h5
            go_wp2_with fail
            go_meet
            case rel => exact ⟨by rw [HF.out, decide_eq_false h6, decide_eq_false h5]; rfl, rfl⟩
      · have hml : ¬ (m : Int) < (L.length : Int) := by omega
        have HF : Hid (mayI T C B m = false) := Lib.hid (by rw [HM.out]; unfold mayR; rw [decide_eq_false hml]; simp)
        go_wp2_with fail
        go_meet
        case rel => exact ⟨by rw [HF.out], rfl⟩
  case rest =>
    obtain ⟨rfl, rfl⟩ := hcut
    clear HM HQ
    obtain ⟨x0, x1, x2⟩ := A.out.x
    have qm : (mayI T C B x == mayI T C B x) = true := by simp
    by_cases h1 : who < 1
    · have HP := Lib.hid (place_low T C B who h1)
      go_wp2_with fail
      refine (place_any T C B who _ A.out.g hw).mono ?_
      rintro e w5 ⟨rfl, hb⟩
      replace A := Lib.hid (A.out.below hb)
      replace P := Lib.hid (P.out.below hb)
      clear hb x0 x1 x2
      obtain ⟨x0, x1, x2⟩ := A.out.x
      rw [HP.out]
      go_wp2_with fail
      refine (awake_any _ A.out.g).mono ?_
      rintro e w5 ⟨rfl, hb⟩
      replace A := Lib.hid (A.out.below hb)
      replace P := Lib.hid (P.out.below hb)
      clear hb x0 x1 x2
      obtain ⟨x0, x1, x2⟩ := A.out.x
      go_wp2_with fail
      refine (may_any T C B x _ A.out.g).mono ?_
      rintro e w5 ⟨rfl, hb⟩
      replace A := Lib.hid (A.out.below hb)
      replace P := Lib.hid (P.out.below hb)
      clear hb x0 x1 x2
      obtain ⟨x0, x1, x2⟩ := A.out.x
      go_wp2_with fail
      go_ret
      exact ⟨rfl, A.out.b⟩
    by_cases h72 : 72 < who
    · have HP := Lib.hid (place_high T C B who h72)
      go_wp2_with fail
      refine (place_any T C B who _ A.out.g hw).mono ?_
      rintro e w5 ⟨rfl, hb⟩
      replace A := Lib.hid (A.out.below hb)
      replace P := Lib.hid (P.out.below hb)
      clear hb x0 x1 x2
      obtain ⟨x0, x1, x2⟩ := A.out.x
      rw [HP.out]
      go_wp2_with fail
      refine (awake_any _ A.out.g).mono ?_
      rintro e w5 ⟨rfl, hb⟩
      replace A := Lib.hid (A.out.below hb)
      replace P := Lib.hid (P.out.below hb)
      clear hb x0 x1 x2
      obtain ⟨x0, x1, x2⟩ := A.out.x
      go_wp2_with fail
      refine (may_any T C B x _ A.out.g).mono ?_
      rintro e w5 ⟨rfl, hb⟩
      replace A := Lib.hid (A.out.below hb)
      replace P := Lib.hid (P.out.below hb)
      clear hb x0 x1 x2
      obtain ⟨x0, x1, x2⟩ := A.out.x
      go_wp2_with fail
      go_ret
      exact ⟨rfl, A.out.b⟩
    by_cases h8 : who ≤ 8
    · have HP : Hid (placeAt T C B who = findL (7, who, 0) L 0) := Lib.hid (by have := place_slot T C B who (by omega) h8; rw [HE.out] at this; exact this)
      have HFD := Lib.hid (fun W hW => find_any (.slice va L.length vc) L 7 who 0 W HLN.out hW)
      rcases findL_neg (7, who, 0) L 0 with hf | hf
      · have HV := Lib.hid (place_neg (HP.out.trans hf))
        rw [hf] at HFD
        clear hf HP
        go_wp2_with fail
        refine (place_any T C B who _ A.out.g hw).mono ?_
        rintro e w5 ⟨rfl, hb⟩
        replace A := Lib.hid (A.out.below hb)
        replace P := Lib.hid (P.out.below hb)
        clear hb x0 x1 x2
        obtain ⟨x0, x1, x2⟩ := A.out.x
        rw [HV.out]
        go_wp2_with fail
        refine (HFD.out _ P.out).mono ?_
        rintro e w5 ⟨rfl, hb⟩
        replace A := Lib.hid (A.out.below hb)
        replace P := Lib.hid (P.out.below hb)
        clear hb x0 x1 x2
        obtain ⟨x0, x1, x2⟩ := A.out.x
        go_wp2_with fail
        refine (awake_any _ A.out.g).mono ?_
        rintro e w5 ⟨rfl, hb⟩
        replace A := Lib.hid (A.out.below hb)
        replace P := Lib.hid (P.out.below hb)
        clear hb x0 x1 x2
        obtain ⟨x0, x1, x2⟩ := A.out.x
        go_wp2_with fail
        refine (may_any T C B x _ A.out.g).mono ?_
        rintro e w5 ⟨rfl, hb⟩
        replace A := Lib.hid (A.out.below hb)
        replace P := Lib.hid (P.out.below hb)
        clear hb x0 x1 x2
        obtain ⟨x0, x1, x2⟩ := A.out.x
        go_wp2_with fail
        go_ret
        exact ⟨rfl, A.out.b⟩
      · have HV := Lib.hid (place_pos (T := T) (C := C) (B := B) (who := who) (by rw [HP.out]; exact hf) (by omega))
        rw [HP.out] at HV
        have hf2 : ¬ findL (7, who, 0) L 0 < 0 := by omega
        generalize findL (7, who, 0) L 0 = f at *
        clear HP
        have qf : (f == f) = true := by simp
        go_wp2_with fail
        refine (place_any T C B who _ A.out.g hw).mono ?_
        rintro e w5 ⟨rfl, hb⟩
        replace A := Lib.hid (A.out.below hb)
        replace P := Lib.hid (P.out.below hb)
        clear hb x0 x1 x2
        obtain ⟨x0, x1, x2⟩ := A.out.x
        rw [HV.out]
        go_wp2_with fail
        refine (HFD.out _ P.out).mono ?_
        rintro e w5 ⟨rfl, hb⟩
        replace A := Lib.hid (A.out.below hb)
        replace P := Lib.hid (P.out.below hb)
        clear hb x0 x1 x2
        obtain ⟨x0, x1, x2⟩ := A.out.x
        go_wp2_with fail
        refine (awake_any _ A.out.g).mono ?_
        rintro e w5 ⟨rfl, hb⟩
        replace A := Lib.hid (A.out.below hb)
        replace P := Lib.hid (P.out.below hb)
        clear hb x0 x1 x2
        obtain ⟨x0, x1, x2⟩ := A.out.x
        go_wp2_with fail
        refine (may_any T C B x _ A.out.g).mono ?_
        rintro e w5 ⟨rfl, hb⟩
        replace A := Lib.hid (A.out.below hb)
        replace P := Lib.hid (P.out.below hb)
        clear hb x0 x1 x2
        obtain ⟨x0, x1, x2⟩ := A.out.x
        go_wp2_with fail
        go_ret
        exact ⟨rfl, A.out.b⟩
    by_cases h9 : 9 ≤ who
    · have HP : Hid (placeAt T C B who = findL (9, who - 9, 0) L 0) := Lib.hid (by have := place_block T C B who h9; rw [HE.out] at this; exact this)
      have HFD := Lib.hid (fun W hW => find_any (.slice va L.length vc) L 9 (who - 9) 0 W HLN.out hW)
      rcases findL_neg (9, who - 9, 0) L 0 with hf | hf
      · have HV := Lib.hid (place_neg (HP.out.trans hf))
        rw [hf] at HFD
        clear hf HP
        go_wp2_with fail
        refine (place_any T C B who _ A.out.g hw).mono ?_
        rintro e w5 ⟨rfl, hb⟩
        replace A := Lib.hid (A.out.below hb)
        replace P := Lib.hid (P.out.below hb)
        clear hb x0 x1 x2
        obtain ⟨x0, x1, x2⟩ := A.out.x
        rw [HV.out]
        go_wp2_with fail
        refine (HFD.out _ P.out).mono ?_
        rintro e w5 ⟨rfl, hb⟩
        replace A := Lib.hid (A.out.below hb)
        replace P := Lib.hid (P.out.below hb)
        clear hb x0 x1 x2
        obtain ⟨x0, x1, x2⟩ := A.out.x
        go_wp2_with fail
        refine (awake_any _ A.out.g).mono ?_
        rintro e w5 ⟨rfl, hb⟩
        replace A := Lib.hid (A.out.below hb)
        replace P := Lib.hid (P.out.below hb)
        clear hb x0 x1 x2
        obtain ⟨x0, x1, x2⟩ := A.out.x
        go_wp2_with fail
        refine (may_any T C B x _ A.out.g).mono ?_
        rintro e w5 ⟨rfl, hb⟩
        replace A := Lib.hid (A.out.below hb)
        replace P := Lib.hid (P.out.below hb)
        clear hb x0 x1 x2
        obtain ⟨x0, x1, x2⟩ := A.out.x
        go_wp2_with fail
        go_ret
        exact ⟨rfl, A.out.b⟩
      · have HV := Lib.hid (place_pos9 (T := T) (C := C) (B := B) (who := who) (by rw [HP.out]; exact hf) (by omega))
        rw [HP.out] at HV
        have hf2 : ¬ findL (9, who - 9, 0) L 0 < 0 := by omega
        generalize findL (9, who - 9, 0) L 0 = f at *
        clear HP
        have qf : (f == f) = true := by simp
        go_wp2_with fail
        refine (place_any T C B who _ A.out.g hw).mono ?_
        rintro e w5 ⟨rfl, hb⟩
        replace A := Lib.hid (A.out.below hb)
        replace P := Lib.hid (P.out.below hb)
        clear hb x0 x1 x2
        obtain ⟨x0, x1, x2⟩ := A.out.x
        rw [HV.out]
        go_wp2_with fail
        refine (HFD.out _ P.out).mono ?_
        rintro e w5 ⟨rfl, hb⟩
        replace A := Lib.hid (A.out.below hb)
        replace P := Lib.hid (P.out.below hb)
        clear hb x0 x1 x2
        obtain ⟨x0, x1, x2⟩ := A.out.x
        go_wp2_with fail
        refine (awake_any _ A.out.g).mono ?_
        rintro e w5 ⟨rfl, hb⟩
        replace A := Lib.hid (A.out.below hb)
        replace P := Lib.hid (P.out.below hb)
        clear hb x0 x1 x2
        obtain ⟨x0, x1, x2⟩ := A.out.x
        go_wp2_with fail
        refine (may_any T C B x _ A.out.g).mono ?_
        rintro e w5 ⟨rfl, hb⟩
        replace A := Lib.hid (A.out.below hb)
        replace P := Lib.hid (P.out.below hb)
        clear hb x0 x1 x2
        obtain ⟨x0, x1, x2⟩ := A.out.x
        go_wp2_with fail
        go_ret
        exact ⟨rfl, A.out.b⟩
    · omega
end Go.Proofs.YtgndlknlahglcaaDoor.layoutMay
