/- Retire of a bag and Wrong of the reference: which items are taken. -/
import Derived.Test.YtknnnjnnphdipaaRcSmall
namespace Go.Proofs.Ytknnnjnnphdipaa
open Go.ChangeShapes Go.WideShapes Go.ChangeAt Go.RowKit Go.Maps
/-- The error of an item, 0 for none. -/
def wrongL (L : List It) (x : It) : Int := if x.1 < 0 ∨ 63 < x.1 then 3 else if x.2.1 < 0 ∨ x.2.2 < x.2.1 then 12 else if hasB L x.1 then 11 else 0
/-- The blocks are distinct and within range. -/
def Good6 (L : List It) : Prop := (L.map (·.1)).Nodup ∧ ∀ x ∈ L, 0 ≤ x.1 ∧ x.1 < 64 ∧ 0 ≤ x.2.1 ∧ x.2.1 ≤ x.2.2
theorem Good6.nil : Good6 [] := ⟨List.nodup_nil, fun _ h => by cases h⟩
theorem Good6.len {L : List It} (h : Good6 L) : L.length ≤ 64 := by
  have h1 := sort_inc h.1
  have h2 := h1.len' (N := 64) (fun x hx => by
    obtain ⟨y, hy, rfl⟩ := List.mem_map.1 ((sort_mem x).1 hx)
    have := h.2 y hy
    omega)
  rw [List.length_mergeSort, List.length_map] at h2
  exact h2
theorem Good6.add {L : List It} (h : Good6 L) {x : It} (hw : wrongL L x = 0) : Good6 (L ++ [x]) := by
  unfold wrongL at hw
  by_cases h1 : x.1 < 0 ∨ 63 < x.1
  · rw [if_pos h1] at hw; cases hw
  rw [if_neg h1] at hw
  by_cases h2 : x.2.1 < 0 ∨ x.2.2 < x.2.1
  · rw [if_pos h2] at hw; cases hw
  rw [if_neg h2] at hw
  cases h3 : hasB L x.1 with
  | true => rw [h3] at hw; cases hw
  | false =>
    refine ⟨?_, fun y hy => ?_⟩
    · rw [List.map_append, List.nodup_append]
      refine ⟨h.1, by simp, fun a ha b hb => ?_⟩
      simp at hb
      subst hb
      rintro rfl
      obtain ⟨y, hy, e⟩ := List.mem_map.1 ha
      have := (hasB_iff L x.1).2 ⟨y, hy, e⟩
      rw [h3] at this; cases this
    · rcases List.mem_append.1 hy with hy | hy
      · exact h.2 y hy
      · simp at hy; subst hy; omega
theorem Good6.room {L : List It} (h : Good6 L) {x : It} (hw : wrongL L x = 0) : L.length < 64 := by
  have := (h.add hw).len
  simp at this
  omega
theorem w3 {L : List It} {x : It} (h : x.1 < 0 ∨ 63 < x.1) : wrongL L x = 3 := by unfold wrongL; rw [if_pos h]
theorem w12 {L : List It} {x : It} (h : ¬ (x.1 < 0 ∨ 63 < x.1)) (h2 : x.2.1 < 0 ∨ x.2.2 < x.2.1) : wrongL L x = 12 := by unfold wrongL; rw [if_neg h, if_pos h2]
theorem w11 {L : List It} {x : It} (h : ¬ (x.1 < 0 ∨ 63 < x.1)) (h2 : ¬ (x.2.1 < 0 ∨ x.2.2 < x.2.1)) (h3 : hasB L x.1 = true) : wrongL L x = 11 := by unfold wrongL; rw [if_neg h, if_neg h2, if_pos h3]
theorem w0 {L : List It} {x : It} (h : ¬ (x.1 < 0 ∨ 63 < x.1)) (h2 : ¬ (x.2.1 < 0 ∨ x.2.2 < x.2.1)) (h3 : hasB L x.1 = false) : wrongL L x = 0 := by unfold wrongL; rw [if_neg h, if_neg h2, h3]; rfl
def Wr (L : List It) (x : It) (w : World) (e : Ending) (w' : World) : Prop := e = .returned (.int .i64 (wrongL L x)) ∧ Below w.heap.size w w'
set_option maxRecDepth 100000 in
set_option maxHeartbeats 800000 in
theorem wrong_early (v : Value) (L : List It) (x : It) (w : World) (h : PS w v L) (hx : (x.1 < 0 ∨ 63 < x.1) ∨ (x.2.1 < 0 ∨ x.2.2 < x.2.1)) : Calls Try.prog 11 #[v, itV x] w (Wr L x w) := by
  obtain ⟨a, cap, rfl⟩ := h.form
  clear h
  unfold itV
  by_cases h1 : x.1 < 0
  · have HW := Lib.hid (w3 (L := L) (.inl h1))
    clear hx
    obtain ⟨x0, x1, x2⟩ := x
    simp only at *
    go_enter Try.func11, Try.ntmps11
    go_wp2_with fail
    go_ret
    exact ⟨by rw [HW.out]; rfl, below1 _ _⟩
  · by_cases h2 : 63 < x.1
    · have HW := Lib.hid (w3 (L := L) (.inr h2))
      clear hx
      obtain ⟨x0, x1, x2⟩ := x
      simp only at *
      go_enter Try.func11, Try.ntmps11
      go_wp2_with fail
      go_ret
      exact ⟨by rw [HW.out]; rfl, below1 _ _⟩
    · have hr : x.2.1 < 0 ∨ x.2.2 < x.2.1 := by omega
      have HW := Lib.hid (w12 (L := L) (by omega) hr)
      clear hx
      obtain ⟨x0, x1, x2⟩ := x
      simp only at *
      by_cases h3 : x1 < 0
      · clear hr
        go_enter Try.func11, Try.ntmps11
        go_wp2_with fail
        go_ret
        exact ⟨by rw [HW.out]; rfl, below1 _ _⟩
      · have h4 : x2 < x1 := by omega
        clear hr
        go_enter Try.func11, Try.ntmps11
        go_wp2_with fail
        go_ret
        exact ⟨by rw [HW.out]; rfl, below1 _ _⟩
set_option maxRecDepth 100000 in
set_option maxHeartbeats 1600000 in
theorem wrong_late (v : Value) (L : List It) (x : It) (w : World) (h : PS w v L) (hl : L.length ≤ 100000) (hx : ¬ (x.1 < 0 ∨ 63 < x.1)) (hx2 : ¬ (x.2.1 < 0 ∨ x.2.2 < x.2.1)) : Calls Try.prog 11 #[v, itV x] w (Wr L x w) := by
  have P := Lib.hid h
  obtain ⟨a, cap, rfl⟩ := h.form
  clear h
  have HT := Lib.hid (w11 (L := L) hx hx2)
  have HF := Lib.hid (w0 (L := L) hx hx2)
  unfold itV
  obtain ⟨n, hn⟩ : ∃ n, L.length = n := ⟨_, rfl⟩
  rw [hn] at hl P ⊢
  have HN := Lib.hid hn
  clear hn
  have h1 : ¬ x.1 < 0 := by omega
  have h2 : ¬ 63 < x.1 := by omega
  have h3 : ¬ x.2.1 < 0 := by omega
  have h4 : ¬ x.2.2 < x.2.1 := by omega
  clear hx hx2
  obtain ⟨x0, x1, x2⟩ := x
  simp only at *
  go_enter Try.func11, Try.ntmps11
  go_wp2_with fail
  obtain ⟨q, hq⟩ : ∃ q, w.heap.size = q := ⟨_, rfl⟩
  obtain ⟨W, hW⟩ : ∃ W, w.alloc (.cells #[.int .i64 x0, .int .i64 x1, .int .i64 x2] 35) = W := ⟨_, rfl⟩
  have B0 : Hid (Box W q #[.int .i64 x0, .int .i64 x1, .int .i64 x2] 35) := Lib.hid (by rw [← hW]; exact Box.new w _ 35 hq.symm)
  have BW : Hid (Below w.heap.size w W) := Lib.hid (by rw [← hW]; exact below1 w _)
  rw [hW, hq]
  clear hW hq
  go_loopw [5] (fun iv wr => ∃ k : Nat, k ≤ n ∧ iv = .int .i64 k ∧ (∀ i, i < k → (L.getD i zIt).1 ≠ x0) ∧ Below W.heap.size W wr) (fun iv _ => n - (intOf iv).toNat)
  case atStart => exact ⟨0, by omega, rfl, fun i hi => by omega, Below.refl _ _⟩
  case round =>
    obtain ⟨k, hk, rfl, hno, hb⟩ := hrel
    have NO := Lib.hid hno
    have BB := Lib.hid hb
    clear hno hb
    by_cases hlt : k < n
    · obtain ⟨b, off, rfl, hbl, hc⟩ := P.out.addr hlt
      obtain ⟨c0, c1, c2⟩ := hc k hlt
      rw [← (BW.out.trans (BB.out.mono BW.out.size)).cell (p := ⟨b, _, none⟩) hbl] at c0 c1 c2
      have d0 := (B0.out.below BB.out).cell 0
      simp at d0
      have HM := Lib.hid (getD_mem3 (L := L) (k := k) (by rw [HN.out]; exact hlt))
      clear hc c1 c2
      obtain ⟨y, hy⟩ : ∃ y, L.getD k zIt = y := ⟨_, rfl⟩
      rw [hy] at c0 HM
      have HY := Lib.hid hy
      clear hy
      obtain ⟨y0, y1, y2⟩ := y
      simp only at c0
      by_cases he : y0 = x0
      · subst he
        have hxb : (y0 == y0) = true := by simp
        go_wp2_with fail
        go_quiet (fail)
        go_wp2_with fail
        go_ret
        exact ⟨by rw [HT.out ((hasB_iff L y0).2 ⟨_, HM.out, rfl⟩)]; rfl, below_drewN (BW.out.trans (BB.out.mono BW.out.size)) _⟩
      · have hxb : (y0 == x0) = false := by rw [beq_eq_false_iff_ne]; exact he
        go_wp2_with fail
        go_quiet (fail)
        go_wp2_with fail
        go_roundw
        case rel =>
          refine ⟨k + 1, by omega, by go_num, fun i hi => ?_, below_drewN BB.out _⟩
          by_cases e : i = k
          · subst e; rw [HY.out]; exact he
          · exact NO.out i (by omega)
        case measure => simp [intOf]; omega
    · go_wp2_with fail
      go_ret
      refine ⟨?_, BW.out.trans (BB.out.mono BW.out.size)⟩
      rw [HF.out]
      · rfl
      · cases h : hasB L x0 with
        | false => rfl
        | true =>
          obtain ⟨z, hz, e⟩ := (hasB_iff L x0).1 h
          obtain ⟨i, hi, e2⟩ := mem_getD3 hz
          exact absurd (by rw [e2]; exact e) (NO.out i (by rw [HN.out] at hi; omega))
theorem wrong_any (v : Value) (L : List It) (x : It) (w : World) (h : PS w v L) (hl : L.length ≤ 100000) : Calls Try.prog 11 #[v, itV x] w (Wr L x w) := by
  by_cases hx : (x.1 < 0 ∨ 63 < x.1) ∨ (x.2.1 < 0 ∨ x.2.2 < x.2.1)
  · exact wrong_early v L x w h hx
  · exact wrong_late v L x w h hl (fun h => hx (.inl h)) (fun h => hx (.inr h))
end Go.Proofs.Ytknnnjnnphdipaa
