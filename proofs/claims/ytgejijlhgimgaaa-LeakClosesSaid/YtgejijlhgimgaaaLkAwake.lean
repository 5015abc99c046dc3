/- The bounds and the example of the statements on leaks. -/
import Derived.Test.YtgejijlhgimgaaaLkReach
namespace Go.Proofs.Ytgejijlhgimgaaa
open Go.ChangeShapes Go.WideShapes Go.ChangeAt Go.RowKit Go.Maps

/-- The answer of great: false only within the bounds. -/
def Great (roots : List Int) (N : List (List Int)) (w : World) (e : Ending) (w' : World) : Prop :=
  ∃ r, e = .returned (.bool r) ∧ w = w' ∧ (r = false → N.length ≤ 24 ∧ roots.length ≤ 24 ∧ ∀ i, (N.getD i []).length ≤ 8)
theorem getD_out (N : List (List Int)) {i : Nat} (h : N.length ≤ i) : N.getD i [] = [] := by
  rw [List.getD, List.getElem?_eq_none h]; rfl
set_option maxRecDepth 100000 in
set_option maxHeartbeats 1600000 in
theorem great_any (v u : Value) (roots : List Int) (N : List (List Int)) (w : World) (hv : IS w v roots) (hu : NS w u N) :
    Calls Try.prog 7 #[v, u] w (Great roots N w) := by
  obtain ⟨a, cap, rfl, hcap, h⟩ := hv
  obtain ⟨a2, cap2, rfl, h2⟩ := hu
  have HU := Lib.hid h2
  clear h h2 hcap
  obtain ⟨n, hn⟩ : ∃ n, N.length = n := ⟨_, rfl⟩
  obtain ⟨R, hR⟩ : ∃ n, roots.length = n := ⟨_, rfl⟩
  rw [hn, hR]
  have HN := Lib.hid hn
  have HRL := Lib.hid hR
  clear hn hR
  go_enter Try.func7, Try.ntmps7
  go_wp2_with fail
  go_loopw [5] (fun iv wr => ∃ k : Nat, k ≤ n ∧ k ≤ 25 ∧ iv = .int .i64 k ∧ (∀ i, i < k → (N.getD i []).length ≤ 8) ∧ Below w.heap.size w wr ∧ w = wr) (fun iv _ => n - (intOf iv).toNat)
  case atStart => exact ⟨0, by omega, by omega, rfl, fun i hi => by omega, Below.refl _ _, rfl⟩
  case round =>
    obtain ⟨k, hk, hk2, rfl, hb, -, rfl⟩ := hrel
    have HB := Lib.hid hb
    clear hb
    by_cases hlt : k < n
    · by_cases hlt2 : k < 25
      · rcases HU.out with h | ⟨b, off, rfl, hbl, hc⟩
        · rw [h] at HN; have := HN.out; simp at this; omega
        obtain ⟨u, hu1, hu2⟩ := hc k (by rw [HN.out]; exact hlt)
        obtain ⟨au, cu, rfl, _⟩ := hu2
        clear hc
        obtain ⟨l, hl⟩ : ∃ l, (N.getD k []).length = l := ⟨_, rfl⟩
        rw [hl] at hu1
        have HL := Lib.hid hl
        clear hl
        by_cases h8 : 8 < l
        · go_wp2_with fail
          go_ret
          exact ⟨true, rfl, rfl, fun h => by cases h⟩
        · go_wp2_with fail
          go_roundw
          case rel =>
            refine ⟨k + 1, by omega, by omega, by go_num, fun i hi => ?_, Below.refl _ _, (by first | exact rfl | trivial)⟩
            by_cases e : i = k
            · subst e; rw [HL.out]; omega
            · exact HB.out i (by omega)
          case measure => simp [intOf]; omega
      · have hn24 : 24 < n := by omega
        go_wp2_with fail
        go_ret
        exact ⟨true, rfl, rfl, fun h => by cases h⟩
    · obtain rfl : k = n := by omega
      go_wp2_with fail
      all_goals
        go_ret
        refine ⟨_, rfl, rfl, fun h => ?_⟩
        first
          | (simp at h; done)
          | (simp at h
             refine ⟨by rw [HN.out]; omega, by rw [HRL.out]; omega, fun i => ?_⟩
             by_cases hi : i < k
             · exact HB.out i hi
             · rw [getD_out N (by rw [HN.out]; omega)]; simp)
/-- The example's graph. -/
def exN : List (List Int) := [[1, 2], [3], [], [1], [0]]
theorem ex_reach (x : Int) : Rch [0] exN x ↔ x ∈ ([0, 1, 2, 3] : List Int) := by
  constructor
  · intro h
    refine h.least (P := fun x => x ∈ ([0, 1, 2, 3] : List Int)) (fun x hx _ _ => by simp at hx; subst hx; decide) (fun y hy _ _ x hx _ _ => ?_)
    simp at hy
    rcases hy with rfl | rfl | rfl | rfl <;> simp [exN] at hx <;> simp <;> omega
  · intro h
    have h0 : Rch [0] exN 0 := .root (by simp) (by decide) (by decide)
    have h1 : Rch [0] exN 1 := .step h0 (by decide) (by decide) (by decide)
    have h2 : Rch [0] exN 2 := .step h0 (by decide) (by decide) (by decide)
    have h3 : Rch [0] exN 3 := .step h1 (by decide) (by decide) (by decide)
    simp at h
    rcases h with rfl | rfl | rfl | rfl <;> assumption
theorem inc_small {a b : List Int} (h : Inc a) (hm : ∀ x, x ∈ a ↔ x ∈ b) (hb : Inc b) : a = b := h.ext hb hm
def Good (w : World) (e : Ending) (w' : World) : Prop := e = .returned (.bool true) ∧ Below w.heap.size w w'
set_option maxRecDepth 100000 in
set_option maxHeartbeats 3200000 in
theorem awake_any (w : World) : Calls Try.prog 8 #[] w (Good w) := by
  go_enter Try.func8, Try.ntmps8
  go_wp2_with fail
  obtain ⟨W, hW⟩ : ∃ W, ((((((w.alloc (.cells #[.int .i64 0] 3)).alloc (.cells #[.int .i64 1, .int .i64 2] 3)).alloc (.cells #[.int .i64 3] 3)).alloc (.cells #[.int .i64 1] 3)).alloc (.cells #[.int .i64 0] 3)).alloc
      (.cells #[.slice (some ⟨w.heap.size + 1, 0, none⟩) 2 2, .slice (some ⟨w.heap.size + 1 + 1, 0, none⟩) 1 1, .slice none 0 0, .slice (some ⟨w.heap.size + 1 + 1 + 1, 0, none⟩) 1 1, .slice (some ⟨w.heap.size + 1 + 1 + 1 + 1, 0, none⟩) 1 1] 22)) = W := ⟨_, rfl⟩
  have b0 : Box W w.heap.size #[.int .i64 0] 3 := by rw [← hW]; exact (((((Box.new w _ 3 rfl).alloc _).alloc _).alloc _).alloc _).alloc _
  have b1 : Box W (w.heap.size + 1) #[.int .i64 1, .int .i64 2] 3 := by rw [← hW]; exact ((((Box.new _ _ 3 (by simp)).alloc _).alloc _).alloc _).alloc _
  have b2 : Box W (w.heap.size + 1 + 1) #[.int .i64 3] 3 := by rw [← hW]; exact (((Box.new _ _ 3 (by simp)).alloc _).alloc _).alloc _
  have b3 : Box W (w.heap.size + 1 + 1 + 1) #[.int .i64 1] 3 := by rw [← hW]; exact ((Box.new _ _ 3 (by simp)).alloc _).alloc _
  have b4 : Box W (w.heap.size + 1 + 1 + 1 + 1) #[.int .i64 0] 3 := by rw [← hW]; exact (Box.new _ _ 3 (by simp)).alloc _
  have b5 : Box W (w.heap.size + 1 + 1 + 1 + 1 + 1) #[.slice (some ⟨w.heap.size + 1, 0, none⟩) 2 2, .slice (some ⟨w.heap.size + 1 + 1, 0, none⟩) 1 1, .slice none 0 0, .slice (some ⟨w.heap.size + 1 + 1 + 1, 0, none⟩) 1 1, .slice (some ⟨w.heap.size + 1 + 1 + 1 + 1, 0, none⟩) 1 1] 22 := by rw [← hW]; exact Box.new _ _ 22 (by simp)
  have hbw : Below w.heap.size w W := by
    rw [← hW]
    exact ((((((Below.refl _ _).alloc (by simp) _).alloc (by simp <;> omega) _).alloc (by simp <;> omega) _).alloc (by simp <;> omega) _).alloc (by simp <;> omega) _).alloc (by simp <;> omega) _
  have i0 : IS W (.slice (some ⟨w.heap.size, 0, none⟩) 1 1) [0] := IS.ofBox b0 rfl rfl (Nat.le_refl _)
  have hns : NS W (.slice (some ⟨w.heap.size + 1 + 1 + 1 + 1 + 1, 0, none⟩) 5 5) exN := by
    refine ⟨_, 5, rfl, .inr ⟨_, 0, rfl, b5.lt, fun i hi => ?_⟩⟩
    rw [b5.cell]
    have hi' : i < 5 := hi
    match i, hi' with
    | 0, _ => exact ⟨_, rfl, IS.ofBox b1 rfl rfl (Nat.le_refl _)⟩
    | 1, _ => exact ⟨_, rfl, IS.ofBox b2 rfl rfl (Nat.le_refl _)⟩
    | 2, _ => exact ⟨_, rfl, IS.nil _ _ _⟩
    | 3, _ => exact ⟨_, rfl, IS.ofBox b3 rfl rfl (Nat.le_refl _)⟩
    | 4, _ => exact ⟨_, rfl, IS.ofBox b4 rfl rfl (Nat.le_refl _)⟩
  have RC := Lib.hid (reach_any _ _ [0] exN W (by simp) (by decide) i0 hns (fun i => by
    by_cases h : i < 5
    · match i, h with
      | 0, _ => decide
      | 1, _ => decide
      | 2, _ => decide
      | 3, _ => decide
      | 4, _ => decide
    · rw [getD_out exN (by show 5 ≤ i; omega)]; simp))
  have BW := Lib.hid hbw
  rw [hW]
  clear b0 b1 b2 b3 b4 b5 hbw i0 hns hW
  refine RC.out.mono ?_
  rintro e w1 ⟨z, L, rfl, hrow, hinc, hmem, -, hb⟩
  obtain rfl : L = [0, 1, 2, 3] := hinc.ext (by unfold Inc; decide) (fun x => (hmem x).trans (ex_reach x))
  obtain ⟨az, cz, rfl, hcz⟩ := hrow.form
  have BB := Lib.hid (BW.out.trans (hb.mono BW.out.size))
  have L1 := Lib.hid hrow.is
  clear hrow hinc hmem hb hcz RC BW
  have X1 := Lib.hid ((BB.out.alloc BB.out.size (.cells #[.int .i64 1, .int .i64 3, .int .i64 4, .int .i64 5] 3)).alloc (by simp; have := BB.out.size; omega) (.cells #[.int .i64 0, .int .i64 1, .int .i64 2, .int .i64 3] 3))
  have U1 := Lib.hid (IS.ofBox (L := [1, 3, 4, 5]) (n := 4) (cap := 4) ((Box.new w1 #[.int .i64 1, .int .i64 3, .int .i64 4, .int .i64 5] 3 rfl).alloc (.cells #[.int .i64 0, .int .i64 1, .int .i64 2, .int .i64 3] 3)) rfl rfl (Nat.le_refl _))
  have C1 := Lib.hid (IS.ofBox (L := [0, 1, 2, 3]) (n := 4) (cap := 4) (Box.new (w1.alloc (.cells #[.int .i64 1, .int .i64 3, .int .i64 4, .int .i64 5] 3)) #[.int .i64 0, .int .i64 1, .int .i64 2, .int .i64 3] 3 rfl) rfl rfl (Nat.le_refl _))
  rw [show (w1.alloc (.cells #[.int .i64 1, .int .i64 3, .int .i64 4, .int .i64 5] 3)).heap.size = w1.heap.size + 1 by simp] at C1
  replace L1 := Lib.hid (L1.out.below ((below1 w1 (.cells #[.int .i64 1, .int .i64 3, .int .i64 4, .int .i64 5] 3)).alloc (by simp) (.cells #[.int .i64 0, .int .i64 1, .int .i64 2, .int .i64 3] 3)))
  go_wp2_with fail
  generalize (w1.alloc (.cells #[.int .i64 1, .int .i64 3, .int .i64 4, .int .i64 5] 3)).alloc (.cells #[.int .i64 0, .int .i64 1, .int .i64 2, .int .i64 3] 3) = w2 at X1 U1 C1 L1 ⊢
  refine (same_any _ _ [0, 1, 2, 3] [0, 1, 2, 3] w2 (by simp) L1.out C1.out).mono ?_
  rintro e w3 ⟨rfl, hb⟩
  rw [show decide (([0, 1, 2, 3] : List Int) = [0, 1, 2, 3]) = true from rfl]
  replace X1 := Lib.hid (X1.out.trans (hb.mono X1.out.size))
  replace U1 := Lib.hid (U1.out.below hb)
  replace L1 := Lib.hid (L1.out.below hb)
  clear hb C1 BB
  go_wp2_with fail
  refine (lost_any _ _ [1, 3, 4, 5] [0, 1, 2, 3] w3 (by simp) (by simp) U1.out L1.out (by unfold OkL I64; decide) (by unfold OkL I64; decide)).mono ?_
  rintro e w4 ⟨z, R4, rfl, hrow, hinc, hmem, -, hb⟩
  obtain rfl : R4 = [4, 5] := hinc.ext (by unfold Inc; decide) (fun x => (hmem x).trans (by simp; omega))
  obtain ⟨az4, cz4, rfl, hcz⟩ := hrow.form
  replace X1 := Lib.hid (X1.out.trans (hb.mono X1.out.size))
  replace U1 := Lib.hid (U1.out.below hb)
  replace L1 := Lib.hid (L1.out.below hb)
  have R1 := Lib.hid hrow.is
  clear hrow hinc hmem hcz hb
  have C1 := Lib.hid (IS.ofBox (L := [4, 5]) (n := 2) (cap := 2) (Box.new w4 #[.int .i64 4, .int .i64 5] 3 rfl) rfl rfl (Nat.le_refl _))
  replace X1 := Lib.hid (X1.out.alloc X1.out.size (.cells #[.int .i64 4, .int .i64 5] 3))
  replace U1 := Lib.hid (U1.out.below (below1 w4 (.cells #[.int .i64 4, .int .i64 5] 3)))
  replace L1 := Lib.hid (L1.out.below (below1 w4 (.cells #[.int .i64 4, .int .i64 5] 3)))
  replace R1 := Lib.hid (R1.out.below (below1 w4 (.cells #[.int .i64 4, .int .i64 5] 3)))
  go_wp2_with fail
  generalize w4.alloc (.cells #[.int .i64 4, .int .i64 5] 3) = w5 at X1 U1 C1 L1 R1 ⊢
  refine (same_any _ _ [4, 5] [4, 5] w5 (by simp) R1.out C1.out).mono ?_
  rintro e w6 ⟨rfl, hb⟩
  rw [show decide (([4, 5] : List Int) = [4, 5]) = true from rfl]
  replace X1 := Lib.hid (X1.out.trans (hb.mono X1.out.size))
  replace U1 := Lib.hid (U1.out.below hb)
  replace L1 := Lib.hid (L1.out.below hb)
  clear hb C1 R1
  go_wp2_with fail
  refine (wild_any _ _ [0, 1, 2, 3] [1, 3, 4, 5] w6 (by simp) (by simp) L1.out U1.out (by unfold OkL I64; decide) (by unfold OkL I64; decide)).mono ?_
  rintro e w7 ⟨z, R7, rfl, hrow, hinc, hmem, -, hb⟩
  obtain rfl : R7 = [0, 2] := hinc.ext (by unfold Inc; decide) (fun x => (hmem x).trans (by simp; omega))
  obtain ⟨az7, cz7, rfl, hcz⟩ := hrow.form
  replace X1 := Lib.hid (X1.out.trans (hb.mono X1.out.size))
  have R1 := Lib.hid hrow.is
  clear hrow hinc hmem hcz hb U1 L1
  have C1 := Lib.hid (IS.ofBox (L := [0, 2]) (n := 2) (cap := 2) (Box.new w7 #[.int .i64 0, .int .i64 2] 3 rfl) rfl rfl (Nat.le_refl _))
  replace X1 := Lib.hid (X1.out.alloc X1.out.size (.cells #[.int .i64 0, .int .i64 2] 3))
  replace R1 := Lib.hid (R1.out.below (below1 w7 (.cells #[.int .i64 0, .int .i64 2] 3)))
  go_wp2_with fail
  generalize w7.alloc (.cells #[.int .i64 0, .int .i64 2] 3) = w8 at X1 C1 R1 ⊢
  refine (same_any _ _ [0, 2] [0, 2] w8 (by simp) R1.out C1.out).mono ?_
  rintro e w9 ⟨rfl, hb⟩
  rw [show decide (([0, 2] : List Int) = [0, 2]) = true from rfl]
  replace X1 := Lib.hid (X1.out.trans (hb.mono X1.out.size))
  clear hb C1 R1
  go_wp2_with fail
  go_ret
  exact ⟨rfl, X1.out⟩
end Go.Proofs.Ytgejijlhgimgaaa
