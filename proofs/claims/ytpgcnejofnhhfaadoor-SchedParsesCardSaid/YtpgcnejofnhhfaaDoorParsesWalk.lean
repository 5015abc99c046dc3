/- Statement SchedParses: the walk through the law for every string. -/
import Derived.Test.YtpgcnejofnhhfaaDoorRParse
import Derived.Test.YtpgcnejofnhhfaaDoorPrintsWalk
import Derived.Test.YtpgcnejofnhhfaaDoorAlike
namespace Go.Proofs.YtpgcnejofnhhfaaDoor.schedParses
open Go.ChangeShapes Go.WideShapes Go.ChangeAt Go.RowKit

def Good (w : World) (e : Ending) (w' : World) : Prop := e = .returned (.bool true) ∧ Below w.heap.size w w'
theorem go_zero : ∀ (f : Nat) (s : List UInt8) (acc L : List Pk) (y : Int), parseGo f s acc = (L, y, 0) → y = 0
  | 0, _, _, _, _, h => by
    simp only [parseGo, Prod.mk.injEq] at h
    exact h.2.1.symm
  | f + 1, s, acc, L, y, h => by
    rw [parseGo] at h
    split at h
    · simp only [Prod.mk.injEq] at h
      exact h.2.1.symm
    · split at h
      · exact go_zero f _ _ _ _ h
      · rename_i hn
        simp only [Prod.mk.injEq] at h
        exact absurd h.2.2 hn
theorem go_fault : ∀ (f : Nat) (s : List UInt8) (acc L : List Pk) (y x : Int), parseGo f s acc = (L, y, x) → x ≠ 0 → L = []
  | 0, _, _, _, _, _, h, hx => by
    simp only [parseGo, Prod.mk.injEq] at h
    exact absurd h.2.2.symm hx
  | f + 1, s, acc, L, y, x, h, hx => by
    rw [parseGo] at h
    split at h
    · simp only [Prod.mk.injEq] at h
      exact absurd h.2.2.symm hx
    · split at h
      · exact go_fault f _ _ _ _ _ h hx
      · simp only [Prod.mk.injEq] at h
        exact h.1.symm
theorem text_ge : ∀ L : List Pk, L.length ≤ (textL L).length
  | [] => Nat.le_refl _
  | p :: r => by
    have := text_ge r
    unfold textL at this ⊢
    rw [List.flatMap_cons, List.length_append, line_body, List.length_append]
    simp only [List.length_cons, List.length_nil]
    omega
theorem bad_ok : ∀ L : List Pk, badL L = 0 → PkOk L
  | [], _ => fun p hp => by cases hp
  | p :: r, h => by
    unfold badL at h
    by_cases hc : checkL p = 0
    · rw [if_pos hc] at h
      intro q hq
      rcases List.mem_cons.1 hq with rfl | hq
      · obtain ⟨h1, h2, h3⟩ := schedPrints.check_small (k := q.1) (t := q.2.1) (c := q.2.2) hc
        refine ⟨?_, ?_, ?_⟩ <;> unfold I64 <;> omega
      · exact bad_ok r h q hq
    · rw [if_neg hc] at h
      exact absurd h hc
theorem parse_back {s : ByteArray} {P : List Pk} {y : Int} (hs : s.size ≤ 3000) (h : parseL s = (P, y, 0)) : y = 0 ∧ PkOk P ∧ P.length ≤ 3000 ∧ printL P = (s.data.toList, 0) := by
  unfold parseL at h
  rw [if_pos (by omega)] at h
  have hy := go_zero _ _ _ _ _ h
  subst hy
  obtain ⟨M, hM, ht, hb⟩ := go_back _ _ _ _ (by rw [Array.length_toList]; exact Nat.lt_succ_self _) h
  rw [List.nil_append] at hM
  subst hM
  have hz : s.data.toList.length ≤ 3000 := by rw [Array.length_toList]; exact hs
  have hl : P.length ≤ 3000 := by have := text_ge P; rw [ht] at this; omega
  refine ⟨rfl, bad_ok P hb, hl, ?_⟩
  unfold printL
  rw [if_neg (by omega), if_pos hb, if_neg (by rw [ht]; omega), ht]
set_option maxRecDepth 100000 in
set_option maxHeartbeats 800000 in
theorem walk_long (s : ByteArray) (w : World) (hl : 3000 < s.size) (hg : Gl w) : Calls Tryd.prog 3 #[.string s] w (Good w) := by
  have HA := Lib.hid (awake_any w hg)
  have h1 : (3000 : Int) < s.size := by omega
  clear hg
  unfold Good
  go_enter Tryd.func3, Tryd.ntmps3
  go_wp2_with fail
  refine HA.out.mono ?_
  rintro e w1 ⟨rfl, hb⟩
  have BB := Lib.hid hb
  clear hb HA
  go_wp2_with fail
  go_ret
  exact ⟨rfl, BB.out⟩
set_option maxRecDepth 100000 in
set_option maxHeartbeats 1600000 in
theorem walk_short (s : ByteArray) (w : World) (hs : s.size ≤ 3000) (hg : Gl w) (hT : Tab w) : Calls Tryd.prog 3 #[.string s] w (Good w) := by
  have HG := Lib.hid hg
  have HT := Lib.hid hT
  have h9 := hg.big
  obtain ⟨⟨P, y, x⟩, hP⟩ : ∃ z, parseL s = z := ⟨_, rfl⟩
  have HP := Lib.hid hP
  have HPA := Lib.hid (parse_any s w (by omega) hg)
  have HPL : Hid (P.length ≤ 100000) := Lib.hid (by
    by_cases hx : x = 0
    · subst hx
      have := (parse_back hs hP).2.2.1
      omega
    · have h := hP
      unfold parseL at h
      rw [if_pos (by omega)] at h
      rw [go_fault _ _ _ _ _ _ h hx]
      simp)
  have h1 : ¬ (3000 : Int) < s.size := by omega
  have HS := Lib.hid hs
  clear hg hT hP hs
  unfold Good
  by_cases hx : x = 0
  · subst hx
    obtain ⟨hy, hok, hlen, hpr⟩ := parse_back HS.out HP.out
    subst hy
    have HOK := Lib.hid hok
    have HPR := Lib.hid hpr
    have hse : (⟨s.data.toList.toArray⟩ : ByteArray) = s := by simp
    clear hok hpr
    go_enter Tryd.func3, Tryd.ntmps3
    go_wp2_with fail
    refine HPA.out.mono ?_
    rintro e w1 ⟨v, he, hr, hb⟩
    rw [HP.out] at he hr
    simp only at he hr
    subst he
    have R1 := Lib.hid hr.ps
    have BB := Lib.hid hb
    clear hr hb HPA
    go_wp2_with fail
    refine (rparse_any s w1 HS.out).mono ?_
    rintro e w2 ⟨u, he, hr, hb⟩
    rw [HP.out] at he hr
    simp only at he hr
    subst he
    have R2 := Lib.hid hr.ps
    replace R1 := Lib.hid (R1.out.below hb)
    replace BB := Lib.hid (BB.out.trans (hb.mono BB.out.size))
    clear hr hb
    go_wp2_with fail
    refine (same_any v u P P w2 HPL.out R1.out R2.out).mono ?_
    rintro e w3 ⟨rfl, hb⟩
    rw [decide_eq_true rfl]
    replace R1 := Lib.hid (R1.out.below hb)
    replace BB := Lib.hid (BB.out.trans (hb.mono BB.out.size))
    have HP3 := Lib.hid (print_any v P w3 R1.out HOK.out (by omega) (HG.out.belowN BB.out h9) (HT.out.below BB.out (by omega)))
    clear hb R2
    go_wp2_with fail
    refine HP3.out.mono ?_
    rintro e w4 ⟨rfl, hb⟩
    rw [HPR.out]
    simp only
    replace BB := Lib.hid (BB.out.trans (hb.mono BB.out.size))
    have HA := Lib.hid (awake_any w4 (HG.out.belowN BB.out h9))
    clear hb HP3
    go_wp2_with fail
    refine HA.out.mono ?_
    rintro e w5 ⟨rfl, hb⟩
    replace BB := Lib.hid (BB.out.trans (hb.mono BB.out.size))
    clear hb HA
    go_wp2_with fail
    go_ret
    exact ⟨rfl, BB.out⟩
  · have hxn : (x != 0) = true := by rw [bne_iff_ne]; exact hx
    clear hx
    go_enter Tryd.func3, Tryd.ntmps3
    go_wp2_with fail
    refine HPA.out.mono ?_
    rintro e w1 ⟨v, he, hr, hb⟩
    rw [HP.out] at he hr
    simp only at he hr
    subst he
    have R1 := Lib.hid hr.ps
    have BB := Lib.hid hb
    clear hr hb HPA
    go_wp2_with fail
    refine (rparse_any s w1 HS.out).mono ?_
    rintro e w2 ⟨u, he, hr, hb⟩
    rw [HP.out] at he hr
    simp only at he hr
    subst he
    have R2 := Lib.hid hr.ps
    replace R1 := Lib.hid (R1.out.below hb)
    replace BB := Lib.hid (BB.out.trans (hb.mono BB.out.size))
    clear hr hb
    go_wp2_with fail
    refine (same_any v u P P w2 HPL.out R1.out R2.out).mono ?_
    rintro e w3 ⟨rfl, hb⟩
    rw [decide_eq_true rfl]
    replace BB := Lib.hid (BB.out.trans (hb.mono BB.out.size))
    have HA := Lib.hid (awake_any w3 (HG.out.belowN BB.out h9))
    clear hb R2 R1
    go_wp2_with fail
    refine HA.out.mono ?_
    rintro e w5 ⟨rfl, hb⟩
    replace BB := Lib.hid (BB.out.trans (hb.mono BB.out.size))
    clear hb HA
    go_wp2_with fail
    go_ret
    exact ⟨rfl, BB.out⟩
theorem walk (s : ByteArray) (w : World) (hg : Gl w) (hT : Tab w) : Calls Tryd.prog 3 #[.string s] w (Good w) := by
  by_cases hl : 3000 < s.size
  · exact walk_long s w hl hg
  · exact walk_short s w (by omega) hg hT
end Go.Proofs.YtpgcnejofnhhfaaDoor.schedParses
