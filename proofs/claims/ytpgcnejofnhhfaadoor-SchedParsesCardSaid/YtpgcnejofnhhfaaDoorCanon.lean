/- Canonical decimal numbers: what canonical, allCanonical and value of package sched answer. -/
import Derived.Test.YtpgcnejofnhhfaaDoorGlob
namespace Go.Proofs.YtpgcnejofnhhfaaDoor
open Go.ChangeShapes Go.WideShapes Go.ChangeAt Go.RowKit

def digB (c : UInt8) : Bool := decide (48 ≤ c.toNat) && decide (c.toNat ≤ 57)
/-- Digits without a leading zero. -/
def digsL : List UInt8 → Bool
  | [] => false
  | c :: r => c.toNat != 48 && (c :: r).all digB
/-- A number in canonical decimal form. -/
def canL (l : List UInt8) : Bool := l == [48] || digsL (Lib.trimPrefix l [45])

theorem all_take_succ (L : List UInt8) {k : Nat} (h : k < L.length) : (L.take (k + 1)).all digB = ((L.take k).all digB && digB L[k]) := by
  rw [List.take_succ_eq_append_getElem h, List.all_append]; simp
theorem all_false (L : List UInt8) {k : Nat} (h : k < L.length) (hd : digB L[k] = false) : L.all digB = false := by
  rw [Bool.eq_false_iff]
  intro ha
  have := List.all_eq_true.1 ha _ (List.getElem_mem h)
  rw [hd] at this; cases this

set_option maxRecDepth 100000 in
set_option maxHeartbeats 1600000 in
theorem canon_any (s : ByteArray) (w : World) (hs : s.size ≤ 100000) : Calls Tryd.prog 48 #[.string s] w fun e w' => e = .returned (.bool (canL s.data.toList)) ∧ w = w' := by
  have ht := Lib.hid (Any.strings_TrimPrefix Tryd.lays101 s ⟨#[45]⟩ w)
  by_cases h0 : s = ⟨#[48]⟩
  · subst h0
    clear ht
    rw [show canL (⟨#[48]⟩ : ByteArray).data.toList = true by decide]
    go_enter Tryd.func48, Tryd.ntmps48
    go_wp2_with fail
    go_ret
    exact ⟨rfl, rfl⟩
  · have e0 : (s.toList == ([48] : List UInt8)) = false := bne_str' h0
    have hc : canL s.data.toList = digsL (Lib.trimPrefix s.data.toList [45]) := by
      rw [canL, ← ByteArray.toList_eq, e0, Bool.false_or]
    rw [hc]
    have hl : (Lib.trimPrefix s.data.toList [45]).length ≤ 100000 := by
      unfold Lib.trimPrefix
      split
      · rw [List.length_drop, Array.length_toList]; exact Nat.le_trans (Nat.sub_le _ _) hs
      · rw [Array.length_toList]; exact hs
    clear hc h0
    have ht2 : Hid (Calls Tryd.prog 58 #[.string s, .string ⟨#[45]⟩] w fun e w' => e = .returned (.string ⟨(Lib.trimPrefix s.data.toList [45]).toArray⟩) ∧ w' = w) := ht
    clear ht
    generalize Lib.trimPrefix s.data.toList [45] = L at *
    go_enter Tryd.func48, Tryd.ntmps48
    go_wp2_with fail
    refine ht2.out.mono ?_
    rintro e w' ⟨rfl, rfl⟩
    clear ht2 e0
    cases L with
    | nil =>
      go_wp2_with fail
      go_ret
      exact ⟨rfl, rfl⟩
    | cons c r =>
      obtain ⟨d, hd⟩ : ∃ d : ByteArray, (⟨(c :: r).toArray⟩ : ByteArray) = d := ⟨_, rfl⟩
      have hdl : d.data.toList = c :: r := by rw [← hd]
      have hds : d.size = r.length + 1 := by rw [← hd]; simp [ByteArray.size]
      have hge : ∀ k (h : k < d.size) (h2 : k < (c :: r).length), d[k] = (c :: r)[k] := by subst hd; intro k h h2; rfl
      have hnil : (d.toList == ([] : List UInt8)) = false := by rw [ByteArray.toList_eq, hdl]; rfl
      rw [hd]
      have hpos : 0 < d.size := by omega
      have hz : d[0]'hpos = c := hge 0 hpos (by simp)
      have HG := Lib.hid hge
      clear hge hd
      have hl2 : d.size ≤ 100000 := by simp at hl; omega
      by_cases h48 : c.toNat = 48
      · have hq : ((c.toNat : Int) == 48) = true := by rw [h48]; rfl
        have HD := Lib.hid (show digsL (c :: r) = false by simp [digsL, h48])
        clear h48 hl
        go_wp2_with fail
        go_ret
        refine ⟨?_, rfl⟩
        rw [HD.out]; rfl
      · have hq : ((c.toNat : Int) == 48) = false := by rw [beq_eq_false_iff_ne]; omega
        have HD := Lib.hid (show digsL (c :: r) = (c :: r).all digB by simp [digsL, h48])
        clear h48 hl
        obtain ⟨L, hLL⟩ : ∃ L, c :: r = L := ⟨_, rfl⟩
        rw [hLL] at HG
        have HD : Hid (digsL (c :: r) = L.all digB) := Lib.hid (by rw [← hLL]; exact HD.out)
        have hLn : L.length = d.size := by rw [← hLL, hds]; simp
        clear hds hdl hLL
        have hzz := hz
        go_wp2_with fail
        go_loop [18] (fun i => ∃ k : Nat, k ≤ d.size ∧ i = .int .i64 k ∧ (L.take k).all digB = true) (fun i => d.size - (intOf i).toNat)
        case atStart => exact ⟨0, by omega, rfl, by simp⟩
        case round =>
          obtain ⟨k, hk, rfl, ha⟩ := hrel
          have HA := Lib.hid ha
          clear ha
          by_cases hlt : k < d.size
          · have hgk := HG.out k hlt (by omega)
            have HS := Lib.hid (all_take_succ L (k := k) (by omega))
            have HF := Lib.hid (all_false L (k := k) (by omega))
            have hLk : k < L.length := by omega
            by_cases h1 : (L[k]).toNat < 48
            · have h1i : ((L[k]).toNat : Int) < 48 := by omega
              go_wp2_with fail
              go_ret
              refine ⟨?_, rfl⟩
              rw [HD.out, HF.out (by simp [digB]; omega)]; rfl
            · have h1i : ¬ ((L[k]).toNat : Int) < 48 := by omega
              by_cases h2 : 57 < (L[k]).toNat
              · have h2i : 57 < ((L[k]).toNat : Int) := by omega
                go_wp2_with fail
                go_ret
                refine ⟨?_, rfl⟩
                rw [HD.out, HF.out (by simp [digB]; omega)]; rfl
              · have h2i : ¬ 57 < ((L[k]).toNat : Int) := by omega
                go_wp2_with fail
                go_round
                case rel => exact ⟨k + 1, by omega, by go_num, by rw [HS.out, HA.out]; simp [digB]; omega⟩
                case measure => simp [intOf]; omega
          · go_wp2_with fail
            go_ret
            refine ⟨?_, rfl⟩
            rw [HD.out, ← List.take_length (l := L), hLn, show d.size = k by omega, HA.out]; rfl
end Go.Proofs.YtpgcnejofnhhfaaDoor
