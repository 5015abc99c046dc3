/- The small functions of the reference: In, Same, Rising, Less. -/
import Derived.Test.YtgejijlhgimgaaaLkBase
namespace Go.Proofs.Ytgejijlhgimgaaa
open Go.ChangeShapes Go.WideShapes Go.ChangeAt Go.RowKit Go.Maps

def inL (l : List Int) (x : Int) : Bool := l.any (· == x)
theorem inL_iff (l : List Int) (x : Int) : inL l x = true ↔ x ∈ l := by
  unfold inL; simp
theorem inL_no {l : List Int} {x : Int} (h : inL l x = false) : x ∉ l := fun hm => by rw [(inL_iff l x).2 hm] at h; cases h
set_option maxRecDepth 100000 in
set_option maxHeartbeats 800000 in
theorem in_any (v : Value) (L : List Int) (x : Int) (w : World) (hl : L.length ≤ 1000000) (h : IS w v L) :
    Calls Try.prog 13 #[v, .int .i64 x] w fun e w' => e = .returned (.bool (inL L x)) ∧ w = w' := by
  obtain ⟨a, cap, rfl, hcap, h⟩ := h
  have H := Lib.hid h
  have HI := Lib.hid (inL_iff L x)
  clear h
  obtain ⟨n, hn⟩ : ∃ n, L.length = n := ⟨_, rfl⟩
  rw [hn] at hl ⊢
  have HN := Lib.hid hn
  clear hn hcap
  obtain ⟨r, hr⟩ : ∃ r, inL L x = r := ⟨_, rfl⟩
  rw [hr]
  have HR := Lib.hid hr
  clear hr
  go_enter Try.func13, Try.ntmps13
  go_wp2
  go_loopw [5] (fun iv wr => ∃ k : Nat, k ≤ n ∧ iv = .int .i64 k ∧ (∀ i, i < k → L.getD i 0 ≠ x) ∧ w = wr) (fun iv _ => n - (intOf iv).toNat)
  case atStart => exact ⟨0, by omega, rfl, fun i hi => by omega, rfl⟩
  case round =>
    obtain ⟨k, hk, rfl, hno, rfl⟩ := hrel
    have NO := Lib.hid hno
    clear hno
    by_cases hlt : k < n
    · rcases H.out with h | ⟨b, off, rfl, hbl, hc⟩
      · rw [h] at HN; have := HN.out; simp at this; omega
      have c0 := hc k (by rw [HN.out]; exact hlt)
      have HM := Lib.hid (getD_mem (L := L) (k := k) (by rw [HN.out]; exact hlt))
      clear hc
      obtain ⟨y, hy⟩ : ∃ y, L.getD k 0 = y := ⟨_, rfl⟩
      rw [hy] at c0 HM
      have HY := Lib.hid hy
      clear hy
      by_cases he : y = x
      · subst he
        go_wp2
        go_ret
        refine ⟨?_, rfl⟩
        have e : r = true := HR.out.symm.trans (HI.out.2 HM.out)
        rw [e]; rfl
      · have hxb : (y == x) = false := by rw [beq_eq_false_iff_ne]; exact he
        go_wp2
        go_roundw
        case rel =>
          refine ⟨k + 1, by omega, by go_num, fun i hi => ?_, (by first | exact rfl | trivial)⟩
          by_cases e : i = k
          · subst e; rw [HY.out]; exact he
          · exact NO.out i (by omega)
        case measure => simp [intOf]; omega
    · go_wp2
      go_ret
      refine ⟨?_, rfl⟩
      have : inL L x ≠ true := fun h => by
        obtain ⟨i, hi, e⟩ := mem_getD (HI.out.1 h)
        exact NO.out i (by rw [HN.out] at hi; omega) e
      have e : r = false := by rw [← HR.out]; simpa using this
      rw [e]; rfl
set_option maxRecDepth 100000 in
set_option maxHeartbeats 800000 in
theorem same_any (v u : Value) (A B : List Int) (w : World) (hl : A.length ≤ 1000000) (hv : IS w v A) (hu : IS w u B) :
    Calls Try.prog 9 #[v, u] w fun e w' => e = .returned (.bool (decide (A = B))) ∧ Below w.heap.size w w' := by
  obtain ⟨a, cap, rfl, hcap, h⟩ := hv
  obtain ⟨a2, cap2, rfl, hcap2, h2⟩ := hu
  have H := Lib.hid h
  have H2 := Lib.hid h2
  clear h h2 hcap hcap2
  obtain ⟨n, hn⟩ : ∃ n, A.length = n := ⟨_, rfl⟩
  obtain ⟨m, hm⟩ : ∃ n, B.length = n := ⟨_, rfl⟩
  rw [hn] at hl ⊢
  rw [hm]
  have HN := Lib.hid hn
  have HM := Lib.hid hm
  clear hn hm
  obtain ⟨r, hr⟩ : ∃ r, decide (A = B) = r := ⟨_, rfl⟩
  rw [hr]
  have HR := Lib.hid hr
  clear hr
  by_cases hnm : n = m
  · subst hnm
    go_enter Try.func9, Try.ntmps9
    go_wp2
    go_loopw [5] (fun iv wr => ∃ k : Nat, k ≤ n ∧ iv = .int .i64 k ∧ (∀ i, i < k → A.getD i 0 = B.getD i 0) ∧ Below w.heap.size w wr) (fun iv _ => n - (intOf iv).toNat)
    case atStart => exact ⟨0, by omega, rfl, fun i hi => by omega, Below.refl _ _⟩
    case round =>
      obtain ⟨k, hk, rfl, hno, hb⟩ := hrel
      have NO := Lib.hid hno
      have BB := Lib.hid hb
      clear hno hb
      by_cases hlt : k < n
      · rcases H.out with h | ⟨b, off, rfl, hbl, hc⟩
        · rw [h] at HN; have := HN.out; simp at this; omega
        rcases H2.out with h | ⟨b2, off2, rfl, hbl2, hc2⟩
        · rw [h] at HM; have := HM.out; simp at this; omega
        have c0 := hc k (by rw [HN.out]; exact hlt)
        have c1 := hc2 k (by rw [HM.out]; exact hlt)
        rw [← BB.out.cell hbl] at c0
        rw [← BB.out.cell hbl2] at c1
        clear hc hc2
        obtain ⟨y, hy⟩ : ∃ y, A.getD k 0 = y := ⟨_, rfl⟩
        obtain ⟨z, hz⟩ : ∃ y, B.getD k 0 = y := ⟨_, rfl⟩
        rw [hy] at c0
        rw [hz] at c1
        have HY := Lib.hid hy
        have HZ := Lib.hid hz
        clear hy hz
        by_cases he : y = z
        · subst he
          have hxb : (y != y) = false := by simp
          go_wp2
          go_quiet (fail)
          go_wp2
          go_roundw
          case rel =>
            refine ⟨k + 1, by omega, by go_num, fun i hi => ?_, below_drewN BB.out _⟩
            by_cases e : i = k
            · subst e; rw [HY.out, HZ.out]
            · exact NO.out i (by omega)
          case measure => simp [intOf]; omega
        · have hxb : (y != z) = true := by rw [bne_iff_ne]; exact he
          go_wp2
          go_quiet (fail)
          go_wp2
          go_ret
          refine ⟨?_, below_drewN BB.out _⟩
          have e : r = false := HR.out.symm.trans (decide_eq_false (by rintro rfl; exact he (HY.out.symm.trans HZ.out)))
          rw [e]; rfl
      · go_wp2
        go_ret
        refine ⟨?_, BB.out⟩
        obtain rfl : k = n := by omega
        have e : r = true := HR.out.symm.trans (decide_eq_true (by
          apply List.ext_getElem (by rw [HN.out, HM.out])
          intro i h1 h2
          have := NO.out i (by rw [HN.out] at h1; exact h1)
          rw [List.getD, List.getD, List.getElem?_eq_getElem h1, List.getElem?_eq_getElem h2] at this
          exact this))
        rw [e]; rfl
  · have hne : ((n : Int) != m) = true := by rw [bne_iff_ne]; omega
    go_enter Try.func9, Try.ntmps9
    go_wp2
    go_ret
    refine ⟨?_, Below.refl _ _⟩
    have e : r = false := HR.out.symm.trans (decide_eq_false (by rintro rfl; exact hnm (HN.out.symm.trans HM.out)))
    rw [e]; rfl
end Go.Proofs.Ytgejijlhgimgaaa
