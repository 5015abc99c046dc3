/- words of the reference, at every string. -/
import Derived.Test.YtpgcnejofnhhfaaDoorRNum
import Derived.Test.YtpgcnejofnhhfaaDoorTens
import Derived.StillTailTactics
namespace Go.Proofs.YtpgcnejofnhhfaaDoor
open Go.ChangeShapes Go.WideShapes Go.ChangeAt Go.RowKit Go.Maps

/-- The slice v of strings reads as ws, and is nobody else's to write. -/
def SRow (B : Nat) (w : World) (v : Value) (ws : List (List UInt8)) : Prop := w.ownsRow B 9 1 v ws.length (ws.map fun x => .string ⟨x.toArray⟩)
theorem SRow.below {B : Nat} {w w1 : World} {v : Value} {ws : List (List UInt8)} (h : SRow B w v ws) (hb : Below w.heap.size w w1) : SRow B w1 v ws := row_below h hb
theorem info9 : (Tryd.prog.info? 9).map (fun i => (i.zero, i.size, i.bytes)) = some (some (.string ⟨#[]⟩), 1, 16) := by kernel_rfl
theorem SRow.one (w : World) (B : Nat) (hB : B ≤ w.heap.size) : SRow B (w.alloc (.cells #[.string ⟨#[]⟩] 9)) (.slice (some ⟨w.heap.size, 0, none⟩) 1 1) [[]] := by
  refine ⟨rfl, .inr ⟨w.heap.size, 1, #[.string ⟨#[]⟩], rfl, hB, heap_alloc_new .., Nat.le_refl _, by unfold maxLen; omega, rfl, rfl⟩⟩
/-- A row that is not empty, opened at its last word. -/
theorem SRow.open {B : Nat} {w : World} {v : Value} {pre : List (List UInt8)} {x : List UInt8} (h : SRow B w v (pre ++ [x])) : ∃ g cap, v = .slice (some ⟨g, 0, none⟩) (pre.length + 1) cap ∧ B ≤ g ∧ g < w.heap.size ∧ w.cell? ⟨g, pre.length, none⟩ = some (.string ⟨x.toArray⟩) ∧ w.frozen? ⟨g, pre.length, none⟩ = false ∧ ∀ u : List UInt8, SRow B (w.setCell ⟨g, pre.length, none⟩ (.string ⟨u.toArray⟩)) v (pre ++ [u]) := by
  unfold SRow at h
  have hl : (pre ++ [x]).length = pre.length + 1 := by simp
  rw [hl] at h
  obtain ⟨h1, ⟨h2, h3⟩ | ⟨g, cap, cur, hv, hB, hh, hn, hm, hs, ht⟩⟩ := h
  · omega
  · have hg := (Array.getElem?_eq_some_iff.1 hh).1
    have hc : cur.toList[pre.length]? = some (.string ⟨x.toArray⟩) := by
      have : (cur.toList.take ((pre.length + 1) * 1))[pre.length]? = some (.string ⟨x.toArray⟩) := by
        rw [ht]; simp
      rw [List.getElem?_take] at this
      split at this
      · exact this
      · cases this
    refine ⟨g, cap, hv, hB, hg, ?_, ?_, fun u => ?_⟩
    · unfold World.cell?
      simp only [hh]
      rw [← Array.getElem?_toList]
      exact hc
    · unfold World.frozen?
      simp [hh]
    · unfold SRow
      rw [show (pre ++ [u]).length = pre.length + 1 by simp]
      refine ⟨by simp, .inr ⟨g, cap, cur.setIfInBounds pre.length (.string ⟨u.toArray⟩), hv, hB, ?_, hn, hm, by simpa using hs, ?_⟩⟩
      · unfold World.setCell
        simp only
        rw [Array.getElem?_modify, if_pos rfl, hh]
        rfl
      · rw [Nat.mul_one] at ht ⊢
        rw [Array.toList_setIfInBounds]
        have e1 : cur.toList.take pre.length = pre.map fun x => Value.string ⟨x.toArray⟩ := by
          have := congrArg (List.take pre.length) ht
          rw [List.take_take, Nat.min_eq_left (by omega)] at this
          rw [this]; simp
        have hsz : cur.toList.length = cur.size := Array.length_toList
        have hlen : pre.length < cur.toList.length := by omega
        rw [List.take_succ_eq_append_getElem (by rw [List.length_set]; exact hlen)]
        rw [List.take_set_of_le (Nat.le_refl _), e1]
        simp
theorem words_last (l : List UInt8) : ∃ pre x, wordsF l = pre ++ [x] := by
  rcases List.eq_nil_or_concat (wordsF l) with h | ⟨pre, x, h⟩
  · exact absurd h (wordsF_ne l)
  · exact ⟨pre, x, by rw [h, List.concat_eq_append]⟩
theorem wordsF_succ (l : List UInt8) {k : Nat} (h : k < l.length) : wordsF (l.take (k + 1)) = stepW (wordsF (l.take k)) l[k] := by
  unfold wordsF
  rw [List.take_succ_eq_append_getElem h, List.foldl_append]; rfl
/-- How many words and letters there are. -/
def bulk (ws : List (List UInt8)) : Nat := (ws.map fun x => x.length + 1).sum
theorem bulk_app (a b : List (List UInt8)) : bulk (a ++ b) = bulk a + bulk b := by simp [bulk]
theorem bulk_words (l : List UInt8) : ∀ k, k ≤ l.length → bulk (wordsF (l.take k)) = k + 1
  | 0, _ => by simp [wordsF, bulk]
  | k + 1, h => by
    rw [wordsF_succ l (by omega)]
    have ih := bulk_words l k (by omega)
    obtain ⟨pre, x, hw⟩ := words_last (l.take k)
    rw [hw] at ih ⊢
    rw [stepW_last]
    rw [bulk_app] at ih
    split
    · rw [bulk_app, bulk_app]; simp [bulk] at ih ⊢; omega
    · rw [bulk_app]; simp [bulk] at ih ⊢; omega
theorem bulk_len (ws : List (List UInt8)) : ws.length ≤ bulk ws := by
  induction ws with
  | nil => simp [bulk]
  | cons a r ih => simp [bulk] at ih ⊢; omega
set_option maxRecDepth 100000 in
set_option maxHeartbeats 1600000 in
theorem words_any (l : List UInt8) (w : World) (hl : l.length ≤ 3000) : Calls Tryd.prog 43 #[.string ⟨l.toArray⟩] w fun e w' => ∃ v, e = .returned v ∧ SRow w.heap.size w' v (wordsF l) ∧ Below w.heap.size w w' := by
  obtain ⟨i0, hi, hz0, hz1, hz2⟩ := info_parts info9
  obtain ⟨d, hd⟩ : ∃ d : ByteArray, (⟨l.toArray⟩ : ByteArray) = d := ⟨_, rfl⟩
  have hds : d.size = l.length := by rw [← hd]; simp [ByteArray.size]
  have hge : ∀ k (h : k < d.size) (h2 : k < l.length), d[k] = l[k] := by subst hd; intro k h h2; rfl
  have hex : ∀ k, k < l.length → d.extract k (k + 1) = ⟨[l.getD k 0].toArray⟩ := by
    intro k hk
    apply bytes_of
    rw [Lib.extract_toList, ← hd]
    simp only [Nat.add_sub_cancel_left]
    simp [List.getD, hk]
    rw [List.drop_eq_getElem_cons hk]
    rfl
  have HG := Lib.hid hge
  have HX := Lib.hid hex
  have HSZ := Lib.hid hds
  have hsz : d.size ≤ 3000 := by omega
  rw [hd]
  clear hd hge hex hds
  go_enter Tryd.func43, Tryd.ntmps43
  go_wp2_with fail
  go_loopw [3, 4] (fun ov iv wr => ∃ k : Nat, k ≤ d.size ∧ iv = .int .i64 k ∧ SRow w.heap.size wr ov (wordsF (l.take k)) ∧ Below w.heap.size w wr) (fun _ iv _ => d.size - (intOf iv).toNat)
  case atStart => exact ⟨0, by omega, rfl, SRow.one w _ (Nat.le_refl _), below1 _ _⟩
  case round =>
    obtain ⟨k, hk, rfl, hr, hb⟩ := hrel
    have BB := Lib.hid hb
    have R := Lib.hid hr
    have BU := Lib.hid (bulk_words l k (by have := HSZ.out; omega))
    obtain ⟨pre, x, hw⟩ := words_last (l.take k)
    rw [hw] at R BU
    obtain ⟨g, cap, rfl, hgB, hgl, hcell, hfz, hset⟩ := R.out.open
    have ST := Lib.hid hset
    have hpl : pre.length ≤ 3001 := by have := BU.out; rw [bulk_app] at this; have := bulk_len pre; omega
    have hxl : x.length ≤ 3001 := by have := BU.out; rw [bulk_app] at this; simp [bulk] at this; omega
    clear hset hr hb
    by_cases hlt : k < d.size
    · have hkl : k < l.length := by have := HSZ.out; omega
      have hg0 := HG.out k hlt hkl
      have hex := HX.out k hkl
      have WS := Lib.hid (wordsF_succ l (k := k) hkl)
      rw [hw, stepW_last] at WS
      have hgd : l.getD k 0 = l[k] := by simp [List.getD, hkl]
      rw [hgd] at hex
      obtain ⟨b, hb⟩ : ∃ b, l[k] = b := ⟨_, rfl⟩
      rw [hb] at hg0 hex WS
      clear hb hgd hw
      by_cases h32 : b = 32
      · subst h32
        rw [if_pos rfl] at WS
        clear hcell hfz hex
        go_wp2_with (first
          | (at_builtin; refine wpList_append_own _ rfl (.tmp 16) (.tmp 17) 71 rfl w.heap.size 9 i0 (.string ⟨#[]⟩) 1 16 Tryd.underlying71 hi hz0 hz1 hz2 rfl (by decide) _ _ _ rfl (R.out.below (below1 _ _)) ⟨wr.heap.size, 0, none⟩ 1 1 [.string ⟨#[]⟩] rfl rfl (fun j u h => by match j, h with | 0, h => simp at h; subst h; simp [go_sem, Addr.add]) (fun u hu => by simp at hu; subst hu; rfl) (by unfold maxLen; simp; omega) (by simp; omega) (by simp; have := BB.out.size; omega) ?_; intro v' w1 hown' hgrow _))
        have B1 : Below w.heap.size w w1 := (BB.out.alloc BB.out.size _).grown hgrow (by simp; have := BB.out.size; omega) (fun j hj => by cases hj; exact hgB)
        refine ⟨⟨k + 1, by omega, by go_num, ?_, B1⟩, by simp [intOf]; omega⟩
        rw [WS.out]
        unfold SRow
        rw [List.length_append, List.map_append]
        exact hown'
      · rw [if_neg h32] at WS
        have hbe : ((b.toNat : Int) == 32) = false := by rw [beq_eq_false_iff_ne]; intro e; exact h32 (UInt8.toNat_inj.1 (by simpa using (by omega : b.toNat = 32)))
        have hsum : x.length + 1 ≤ 9223372036854775807 := by omega
        have hcat : (⟨x.toArray⟩ : ByteArray) ++ ⟨[b].toArray⟩ = ⟨(x ++ [b]).toArray⟩ := cat x [b]
        go_wp2_with fail
        have hwp : IntKind.i64.wrap (pre.length : Int) = pre.length := IntWalk.i64_in _ (by omega)
        have hwk : IntKind.i64.wrap ((k : Int) + 1) = (k : Int) + 1 := IntWalk.i64_in _ (by omega)
        have hqq : ((pre.length : Int) < (pre.length : Int) + 1) = True := eq_true (by omega)
        have hks1 : ((k : Int) + 1 ≤ (d.size : Int)) = True := eq_true (by omega)
        have hks2 : ((k : Int) ≤ (k : Int) + 1) = True := eq_true (by omega)
        have hks3 : (k + 1 ≤ d.size) = True := eq_true (by omega)
        have hks4 : ((d.size : Int) < (k : Int) + 1) = False := eq_false (by omega)
        have hks5 : ((k : Int) + 1 < (k : Int)) = False := eq_false (by omega)
        have hsm1 : ¬ 9223372036854775807 < (⟨x.toArray⟩ : ByteArray).size + (⟨[b].toArray⟩ : ByteArray).size := by simp [ByteArray.size]; omega
        have hsm2 : ¬ 9223372036854775807 < x.length + 1 := by omega
        go_still_tail 17, (by kernel_rfl)
        change wpList _ _ _ _ _ wr.drew
        go_wp2_with fail
        go_roundw
        case rel => exact ⟨k + 1, by omega, by go_num, by rw [WS.out]; exact ST.out (x ++ [b]), (BB.out.drew).setCell hgB _⟩
        case measure => simp [intOf]; omega
    · go_wp2_with fail
      go_ret
      have e : l.take k = l := by rw [show k = l.length by have := HSZ.out; omega, List.take_length]
      rw [e] at hw
      exact ⟨_, rfl, by rw [hw]; exact R.out, BB.out⟩
end Go.Proofs.YtpgcnejofnhhfaaDoor
