/- Statement SchedPrints: the walk through the law for every schedule. -/
import Derived.Test.YtpgcnejofnhhfaaDoorInv
import Derived.Test.YtpgcnejofnhhfaaDoorAwake
import Derived.Test.YtpgcnejofnhhfaaDoorRefCheck
import Derived.Test.YtpgcnejofnhhfaaDoorRefLine
namespace Go.Proofs.YtpgcnejofnhhfaaDoor.schedPrints
open Go.ChangeShapes Go.WideShapes Go.ChangeAt Go.RowKit

def Good (w : World) (e : Ending) (w' : World) : Prop := e = .returned (.bool true) ∧ Below w.heap.size w w'
theorem badL_keep : ∀ (a b : List Pk), badL a ≠ 0 → badL (a ++ b) = badL a
  | [], _, h => absurd rfl h
  | p :: r, b, h => by
    simp only [List.cons_append, badL] at h ⊢
    split
    · rename_i hp
      rw [if_pos hp] at h
      exact badL_keep r b h
    · rfl
/-- What the loop keeps: the error so far, and the text as long as there is none. -/
def Head (L : List Pk) (k : Nat) (sv bv : Value) : Prop := bv = .int .i64 (badL (L.take k)) ∧ ∃ s : ByteArray, sv = .string s ∧ s.size ≤ 60 * k ∧ (badL (L.take k) = 0 → s = ⟨(textL (L.take k)).toArray⟩)
theorem check_small {k t c : Int} (h : checkL (k, t, c) = 0) : (k = 0 ∨ k = 1 ∨ k = 2) ∧ (0 ≤ t ∧ t ≤ 8) ∧ -2147483648 ≤ c ∧ c ≤ 2147483647 := by
  unfold checkL at h
  simp only at h
  split at h
  · cases h
  split at h
  · cases h
  split at h
  · cases h
  refine ⟨by omega, ?_, by omega⟩
  rename_i h1 h2 h3
  by_cases hk : k = 2
  · subst hk
    rcases Classical.em (t = 0) with x | x
    · omega
    · exact absurd (Or.inl ⟨rfl, x⟩) h2
  · have : ¬ (t < 1 ∨ 8 < t) := fun x => h2 (.inr ⟨hk, x⟩)
    omega
set_option maxRecDepth 100000 in
set_option maxHeartbeats 800000 in
theorem walk_long (v : Value) (L : List Pk) (w : World) (hp : PS w v L) (hl : 200 < L.length) (hg : Gl w) : Calls Tryd.prog 4 #[v] w (Good w) := by
  obtain ⟨a, cap, rfl, -⟩ := hp
  have HA := Lib.hid (awake_any w hg)
  have h1 : (200 : Int) < L.length := by omega
  clear hg
  unfold Good
  go_enter Tryd.func4, Tryd.ntmps4
  go_wp2_with fail
  refine HA.out.mono ?_
  rintro e w1 ⟨rfl, hb⟩
  have BB := Lib.hid hb
  clear hb HA
  go_wp2_with fail
  go_ret
  exact ⟨rfl, BB.out⟩
set_option maxRecDepth 100000 in
set_option maxHeartbeats 3200000 in
theorem walk_short (v : Value) (L : List Pk) (w : World) (hp : PS w v L) (ho : PkOk L) (hl : L.length ≤ 200) (hg : Gl w) (hT : Tab w) : Calls Tryd.prog 4 #[v] w (Good w) := by
  have HPS := Lib.hid hp
  obtain ⟨a, cap, rfl, h⟩ := hp
  have H := Lib.hid h
  have HO := Lib.hid ho
  have HG := Lib.hid hg
  have HT := Lib.hid hT
  have h9 := hg.big
  clear h ho hg hT
  obtain ⟨n, hn⟩ : ∃ n, L.length = n := ⟨_, rfl⟩
  rw [hn] at hl HPS ⊢
  have HN := Lib.hid hn
  clear hn
  have h1 : ¬ (200 : Int) < n := by omega
  unfold Good
  go_enter Tryd.func4, Tryd.ntmps4
  go_wp2_with fail
  go_loopw [3, 4, 18] (fun sv bv iv wr => ∃ k : Nat, k ≤ n ∧ iv = .int .i64 k ∧ Head L k sv bv ∧ Below w.heap.size w wr) (fun _ _ iv _ => n - (intOf iv).toNat)
  case atStart => exact ⟨0, by omega, rfl, ⟨rfl, _, rfl, by simp [ByteArray.size], fun _ => rfl⟩, Below.refl _ _⟩
  case round =>
    obtain ⟨k, hk, rfl, ⟨rfl, s, rfl, hss, hst⟩, hb⟩ := hrel
    have BB := Lib.hid hb
    have ST := Lib.hid hst
    have hws := hb.size
    clear hb hst
    by_cases hlt : k < n
    · rcases H.out with h | ⟨b0, off, rfl, hb0, hc⟩
      · have := HN.out; rw [h] at this; simp at this; omega
      obtain ⟨c0, c1, c2⟩ := hc k (by rw [HN.out]; exact hlt)
      rw [← BB.out.cell hb0] at c0 c1 c2
      clear hc
      have HI := Lib.hid (HO.out.at (k := k) (by rw [HN.out]; exact hlt))
      have HTS := Lib.hid (textL_succ L (k := k) (by rw [HN.out]; exact hlt))
      have HBK := Lib.hid (fun h => badL_keep (L.take k) [L.getD k zPk] h)
      rw [← take_succ_getD L (by rw [HN.out]; exact hlt)] at HBK
      have HBS := Lib.hid (badL_succ L (k := k) (by rw [HN.out]; exact hlt))
      have HBA := Lib.hid (fun (h : badL (L.take k) = 0) => badL_app (L.take k) [L.getD k zPk] h)
      rw [← take_succ_getD L (by rw [HN.out]; exact hlt)] at HBA
      rw [← getD_eta L k] at HTS HBS HBA
      generalize (L.getD k zPk).1 = x0 at *
      generalize (L.getD k zPk).2.1 = x1 at *
      generalize (L.getD k zPk).2.2 = x2 at *
      have B1 := Lib.hid (BB.out.alloc hws (.cells #[.int .i64 x0, .int .i64 x1, .int .i64 x2] 35))
      by_cases hbz : badL (L.take k) = 0
      · have SZ := Lib.hid (ST.out hbz)
        rw [hbz]
        go_wp2_with fail
        refine (rcheck_any x0 x1 x2 _).mono ?_
        rintro e w2 ⟨rfl, hb⟩
        replace B1 := Lib.hid (B1.out.trans (hb.mono B1.out.size))
        have bc := (hb.cell (p := ⟨wr.heap.size, 0, none⟩) (by simp)).trans (show _ = some (.int .i64 x0) by simp [go_sem])
        have bd := (hb.cell (p := ⟨wr.heap.size, 1, none⟩) (by simp)).trans (show _ = some (.int .i64 x1) by simp [go_sem])
        have be := (hb.cell (p := ⟨wr.heap.size, 2, none⟩) (by simp)).trans (show _ = some (.int .i64 x2) by simp [go_sem])
        clear hb c0 c1 c2
        by_cases hq : checkL (x0, x1, x2) = 0
        · rw [hq]
          obtain ⟨q1, q2, q3⟩ := check_small hq
          have HBZ := Lib.hid (HBS.out hbz hq)
          have hls : s.size + (⟨(lineT (x0, x1, x2)).toArray⟩ : ByteArray).size ≤ 9223372036854775807 := by
            have := lineT_le (p := (x0, x1, x2)) HI.out.2.1 HI.out.2.2
            simp only [ByteArray.size, List.size_toArray] at this ⊢
            simp only [ByteArray.size] at hss
            omega
          have hl60 : (⟨(lineT (x0, x1, x2)).toArray⟩ : ByteArray).size ≤ 60 := by
            have := lineT_le (p := (x0, x1, x2)) HI.out.2.1 HI.out.2.2
            simpa [ByteArray.size] using this
          go_wp2_with fail
          refine (rline_any (x0, x1, x2) _ q1 (by simp only; omega) (by simp only; omega) (by simp only; omega) (by simp only; omega)).mono ?_
          rintro e w3 ⟨rfl, hb⟩
          replace B1 := Lib.hid (B1.out.trans (hb.mono B1.out.size))
          clear hb bc bd be
          go_wp2_with fail
          go_roundw
          case rel => exact ⟨k + 1, by omega, by go_num, ⟨by rw [HBZ.out], s ++ ⟨(lineT (x0, x1, x2)).toArray⟩, rfl, by rw [ByteArray.size_append]; omega, fun _ => by rw [SZ.out, HTS.out, cat]⟩, B1.out⟩
          case measure => simp [intOf]; omega
        · have hqe : (checkL (x0, x1, x2) == 0) = false := by rw [beq_eq_false_iff_ne]; exact hq
          have HBZ : Hid (badL (L.take (k + 1)) = checkL (x0, x1, x2)) := Lib.hid (by rw [HBA.out hbz]; simp only [badL]; rw [if_neg hq])
          have HQ := Lib.hid hq
          clear hq
          generalize checkL (x0, x1, x2) = cq at *
          go_wp2_with fail
          go_roundw
          case rel => exact ⟨k + 1, by omega, by go_num, ⟨by rw [HBZ.out], s, rfl, by omega, fun h => absurd (HBZ.out.symm.trans h) HQ.out⟩, B1.out⟩
          case measure => simp [intOf]; omega
      · have hbe : (badL (L.take k) == 0) = false := by rw [beq_eq_false_iff_ne]; exact hbz
        have HBZ := Lib.hid hbz
        clear hbz
        go_wp2_with fail
        go_roundw
        case rel => exact ⟨k + 1, by omega, by go_num, ⟨by rw [HBK.out HBZ.out], s, rfl, by omega, fun h => absurd ((HBK.out HBZ.out).symm.trans h) HBZ.out⟩, B1.out⟩
        case measure => simp [intOf]; omega
    · obtain rfl : k = n := by omega
      have TK : Hid (L.take k = L) := Lib.hid (by rw [← HN.out, List.take_length])
      rw [TK.out] at ST ⊢
      have HPR := Lib.hid (print_any _ L _ ((HPS.out).below BB.out) HO.out (by rw [HN.out]; omega) (HG.out.below BB.out) (HT.out.below BB.out (by omega)))
      have htl : (textL L).length ≤ 60 * 200 := by have := textL_le L HO.out k (by rw [HN.out]; exact Nat.le_refl _); rw [TK.out] at this; omega
      have HG2 := Lib.hid (HG.out.below BB.out)
      have HP2 := Lib.hid (HPS.out.below BB.out)
      by_cases hbz : badL L = 0
      · have SZ := Lib.hid (ST.out hbz)
        have HPL : Hid (printL L = (textL L, 0)) := Lib.hid (by unfold printL; rw [if_neg (by rw [HN.out]; omega), if_pos hbz, if_neg (by omega)])
        have HPT := Lib.hid (parse_text L hbz (by omega) (by rw [HN.out]; omega))
        rw [hbz, SZ.out]
        go_wp2_with fail
        refine HPR.out.mono ?_
        rintro e w2 ⟨rfl, hb⟩
        rw [HPL.out]
        replace HG2 := Lib.hid (HG2.out.below hb)
        replace HP2 := Lib.hid (HP2.out.below hb)
        replace BB := Lib.hid (BB.out.trans (hb.mono BB.out.size))
        clear hb HPR
        go_wp2_with fail
        refine (parse_any ⟨(textL L).toArray⟩ _ (by simp only [ByteArray.size, List.size_toArray]; omega) HG2.out).mono ?_
        rintro e w3 ⟨pv, he, hr, hb⟩
        rw [HPT.out] at he hr
        simp only at he hr
        subst he
        have R3 := Lib.hid hr.ps
        replace HG2 := Lib.hid (HG2.out.below hb)
        replace HP2 := Lib.hid (HP2.out.below hb)
        replace BB := Lib.hid (BB.out.trans (hb.mono BB.out.size))
        clear hb hr
        go_wp2_with fail
        refine (alike_any pv _ L L _ (by rw [HN.out]; omega) R3.out HP2.out).mono ?_
        rintro e w4 ⟨rfl, hb⟩
        rw [decide_eq_true rfl]
        replace HG2 := Lib.hid (HG2.out.below hb)
        replace BB := Lib.hid (BB.out.trans (hb.mono BB.out.size))
        clear hb R3
        go_wp2_with fail
        refine (awake_any _ HG2.out).mono ?_
        rintro e w5 ⟨rfl, hb⟩
        replace BB := Lib.hid (BB.out.trans (hb.mono BB.out.size))
        clear hb
        go_wp2_with fail
        go_ret
        exact ⟨rfl, BB.out⟩
      · have HPL : Hid (printL L = ([], badL L)) := Lib.hid (by unfold printL; rw [if_neg (by rw [HN.out]; omega), if_neg hbz])
        have hbn : (badL L != 0) = true := by rw [bne_iff_ne]; exact hbz
        clear hbz
        generalize badL L = bl at *
        go_wp2_with fail
        refine HPR.out.mono ?_
        rintro e w2 ⟨rfl, hb⟩
        rw [HPL.out]
        replace HG2 := Lib.hid (HG2.out.below hb)
        replace BB := Lib.hid (BB.out.trans (hb.mono BB.out.size))
        clear hb HPR
        go_wp2_with fail
        refine (awake_any _ HG2.out).mono ?_
        rintro e w5 ⟨rfl, hb⟩
        replace BB := Lib.hid (BB.out.trans (hb.mono BB.out.size))
        clear hb
        go_wp2_with fail
        go_ret
        exact ⟨rfl, BB.out⟩
theorem walk (v : Value) (L : List Pk) (w : World) (hp : PS w v L) (ho : PkOk L) (hg : Gl w) (hT : Tab w) : Calls Tryd.prog 4 #[v] w (Good w) := by
  by_cases hl : 200 < L.length
  · exact walk_long v L w hp hl hg
  · exact walk_short v L w hp ho (by omega) hg hT
end Go.Proofs.YtpgcnejofnhhfaaDoor.schedPrints
