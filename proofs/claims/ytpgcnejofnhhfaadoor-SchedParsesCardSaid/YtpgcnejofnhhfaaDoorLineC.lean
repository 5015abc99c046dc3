/- One line: what parseLine of package sched answers at every string. -/
import Derived.Test.YtpgcnejofnhhfaaDoorLineB
namespace Go.Proofs.YtpgcnejofnhhfaaDoor
open Go.ChangeShapes Go.WideShapes Go.ChangeAt Go.RowKit

theorem kindL_some {h : ByteArray} {k : Int} (hk : kindL h = some k) : k = 0 ∨ k = 1 ∨ k = 2 := by
  unfold kindL at hk
  split at hk
  · cases hk; exact .inl rfl
  · split at hk
    · cases hk; exact .inr (.inl rfl)
    · split at hk
      · cases hk; exact .inr (.inr rfl)
      · cases hk
theorem len1 {ns : List ByteArray} (h : (ns.length : Int) = 1) : ∃ a, ns = [a] := by
  match ns, h with
  | [a], _ => exact ⟨a, rfl⟩
  | [], h => simp at h
  | _ :: _ :: _, h => simp at h; omega
theorem len2 {ns : List ByteArray} (h : (ns.length : Int) = 2) : ∃ a b, ns = [a, b] := by
  match ns, h with
  | [a, b], _ => exact ⟨a, b, rfl⟩
  | [], h => simp at h
  | [_], h => simp at h
  | _ :: _ :: _ :: _, h => simp at h; omega
theorem line_any (s : ByteArray) (w : World) (hs : s.size ≤ 65536) (hg : Gl w) : Calls Tryd.prog 27 #[.string s] w (LineP s w) := by
  cases hw : wordsB s with
  | nil => have := wordsB_len s; rw [hw] at this; simp at this
  | cons h ns =>
    cases hk : kindL h with
    | none => exact line_none s w hs hg h ns hw hk
    | some k =>
      rcases kindL_some hk with rfl | rfl | rfl
      · by_cases hm : (ns.length : Int) = manyL 0
        · obtain ⟨a, b, hns⟩ := len2 hm
          cases hc : allCan ns with
          | false => exact line_can0 s w hs hg h ns hw a b hns hk hc
          | true =>
            cases hv : valO a with
            | none => exact line_t0 s w hs hg h ns hw a b hns hk hc hv
            | some ta =>
              cases hv2 : valO b with
              | none => exact line_c0 s w hs hg h ns hw a b hns hk hc ta hv hv2
              | some tb =>
                by_cases hq : checkL (0, ta, tb) = 0
                · exact line_e0 s w hs hg h ns hw a b hns hk hc ta tb hv hv2 hq
                · exact line_b0 s w hs hg h ns hw a b hns hk hc ta tb hv hv2 hq
        · exact line_mis0 s w hs hg h ns hw hk hm
      · by_cases hm : (ns.length : Int) = manyL 1
        · obtain ⟨a, hns⟩ := len1 hm
          cases hc : allCan ns with
          | false => exact line_can1 s w hs hg h ns hw a hns hk hc
          | true =>
            cases hv : valO a with
            | none => exact line_c1 s w hs hg h ns hw a hns hk hc hv
            | some ta =>
              by_cases hq : checkL (1, ta, 0) = 0
              · exact line_e1 s w hs hg h ns hw a hns hk hc ta hv hq
              · exact line_b1 s w hs hg h ns hw a hns hk hc ta hv hq
        · exact line_mis1 s w hs hg h ns hw hk hm
      · by_cases hm : (ns.length : Int) = manyL 2
        · obtain ⟨a, hns⟩ := len1 hm
          cases hc : allCan ns with
          | false => exact line_can2 s w hs hg h ns hw a hns hk hc
          | true =>
            cases hv : valO a with
            | none => exact line_c2 s w hs hg h ns hw a hns hk hc hv
            | some ta =>
              by_cases hq : checkL (2, 0, ta) = 0
              · exact line_e2 s w hs hg h ns hw a hns hk hc ta hv hq
              · exact line_b2 s w hs hg h ns hw a hns hk hc ta hv hq
        · exact line_mis2 s w hs hg h ns hw hk hm
end Go.Proofs.YtpgcnejofnhhfaaDoor
