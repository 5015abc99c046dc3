/- Less of the reference; indices, without, Lost and Wild of package leak. -/
import Derived.Test.YtgejijlhgimgaaaLkRise
import Derived.Maps.Views
import Derived.Maps.Ext
namespace Go.Proofs.Ytgejijlhgimgaaa
open Go.ChangeShapes Go.WideShapes Go.ChangeAt Go.RowKit Go.Maps

/-- A slice of one's own that holds, in increasing order, the numbers with property P, at most n of them. -/
def Set (w : World) (P : Int → Prop) (n : Nat) (e : Ending) (w' : World) : Prop :=
  ∃ u R, e = .returned u ∧ Row w.heap.size w' u R ∧ Inc R ∧ (∀ x, x ∈ R ↔ P x) ∧ R.length ≤ n ∧ Below w.heap.size w w'
theorem Set.iff {w : World} {P Q : Int → Prop} {n m : Nat} {e : Ending} {w' : World} (h : Set w P n e w') (hpq : ∀ x, P x ↔ Q x) (hn : n ≤ m) : Set w Q m e w' := by
  obtain ⟨u, R, h1, h2, h3, h4, h5, h6⟩ := h
  exact ⟨u, R, h1, h2, h3, fun x => (h4 x).trans (hpq x), by omega, h6⟩
set_option maxRecDepth 100000 in
set_option maxHeartbeats 1600000 in
theorem less_any (v u : Value) (A B : List Int) (w : World) (hl : A.length ≤ 1000) (hl2 : B.length ≤ 1000000) (hv : IS w v A) (hu : IS w u B) :
    Calls Try.prog 15 #[v, u] w (Set w (fun x => x ∈ A ∧ x ∉ B) A.length) := by
  have HU := Lib.hid hu
  obtain ⟨a, cap, rfl, hcap, h⟩ := hv
  obtain ⟨a2, cap2, rfl, hcap2, h2⟩ := hu
  have H := Lib.hid h
  clear h h2 hcap hcap2
  obtain ⟨n, hn⟩ : ∃ n, A.length = n := ⟨_, rfl⟩
  obtain ⟨m, hm⟩ : ∃ n, B.length = n := ⟨_, rfl⟩
  rw [hn] at hl ⊢
  rw [hm] at HU hl2 ⊢
  have HN := Lib.hid hn
  have HM := Lib.hid hm
  clear hn hm
  go_enter Try.func15, Try.ntmps15
  go_wp2
  go_loopw [5, 6] (fun ov iv wr => ∃ k : Nat, ∃ out, k ≤ n ∧ iv = .int .i64 k ∧ Row w.heap.size wr ov out ∧ (∀ x, x ∈ out ↔ x ∈ A.take k ∧ x ∉ B) ∧ out.length ≤ k ∧ Below w.heap.size w wr) (fun _ iv _ => n - (intOf iv).toNat)
  case atStart => exact ⟨0, [], by omega, rfl, Row.nil _ _, by simp, by simp, Below.refl _ _⟩
  case round =>
    obtain ⟨k, out, hk, rfl, hrow, hmem, hlen, hb⟩ := hrel
    have R := Lib.hid hrow
    have BB := Lib.hid hb
    have HO := Lib.hid hmem
    have hsz := hb.size
    clear hb hmem hrow
    by_cases hlt : k < n
    · rcases H.out with h | ⟨b, off, rfl, hbl, hc⟩
      · rw [h] at HN; have := HN.out; simp at this; omega
      have c0 := hc k (by rw [HN.out]; exact hlt)
      have HT := Lib.hid (take_succ_getDI A (k := k) (by rw [HN.out]; exact hlt))
      rw [← BB.out.cell hbl] at c0
      clear hc
      obtain ⟨x, hx⟩ : ∃ y, A.getD k 0 = y := ⟨_, rfl⟩
      rw [hx] at c0 HT
      clear hx
      have HA := Lib.hid (in_any _ B x wr (by rw [HM.out]; exact hl2) (HU.out.below BB.out))
      have HQ := Lib.hid (inL_iff B x)
      obtain ⟨r, hr⟩ : ∃ r, inL B x = r := ⟨_, rfl⟩
      rw [hr] at HA HQ
      clear hr
      cases r with
      | true =>
        have hx := Lib.hid (HQ.out.1 rfl)
        go_wp2_with fail
        refine HA.out.mono ?_
        rintro e w' ⟨rfl, rfl⟩
        go_wp2_with fail
        go_roundw
        case rel =>
          refine ⟨k + 1, out, by omega, by go_num, R.out, fun y => ?_, by omega, BB.out⟩
          rw [HT.out, HO.out y, List.mem_append, List.mem_singleton]
          constructor
          · exact fun h => ⟨.inl h.1, h.2⟩
          · rintro ⟨h | h, h2⟩
            · exact ⟨h, h2⟩
            · exact absurd (h ▸ hx.out) h2
        case measure => simp [intOf]; omega
      | false =>
        have hnot : Hid (x ∉ B) := Lib.hid (fun hm => by have := HQ.out.2 hm; cases this)
        clear HQ
        have S2 := Lib.hid (IS.ofBox (Box.new wr #[.int .i64 x] 3 rfl) (L := [x]) (n := 1) (cap := 1) rfl rfl (Nat.le_refl _))
        have A2 := Lib.hid (BB.out.alloc hsz (.cells #[.int .i64 x] 3))
        have R1 := Lib.hid (R.out.below (below1 wr (.cells #[.int .i64 x] 3)))
        go_wp2_with fail
        refine HA.out.mono ?_
        rintro e w' ⟨rfl, rfl⟩
        clear HA
        go_wp2_with (first | (at_builtin; refine wpList_app' _ rfl (.tmp 20) (.tmp 25) rfl rfl A2.out R1.out rfl S2.out (by simp; omega) ?_; intro v2 w2 r2 b2 g2; have R2 := Lib.hid r2; have B5 := Lib.hid b2; clear r2 b2 g2) | fail)
        go_roundw
        case rel =>
          refine ⟨k + 1, _, by omega, by go_num, R2.out, fun y => ?_, by simp; omega, B5.out⟩
          rw [HT.out, List.mem_append, HO.out y, List.mem_append, List.mem_singleton]
          constructor
          · rintro (h | h)
            · exact ⟨.inl h.1, h.2⟩
            · exact ⟨.inr h, h ▸ hnot.out⟩
          · rintro ⟨h | h, h2⟩
            · exact .inl ⟨h, h2⟩
            · exact .inr h
        case measure => simp [intOf]; omega
    · obtain rfl : k = n := by omega
      go_wp2_with fail
      refine (rising_any _ out wr (by omega) R.out.is).mono ?_
      rintro e w1 ⟨z, S, rfl, hrow, hinc, hmem, hlen2, hb⟩
      obtain ⟨az, cz, rfl, hcz⟩ := hrow.form
      have RR := Lib.hid hrow
      have B2 := Lib.hid hb
      clear hrow hb
      have HMEM := Lib.hid hmem
      have HINC := Lib.hid hinc
      clear hmem hinc
      go_wp2_with fail
      go_ret
      exact ⟨_, S, rfl, RR.out.mono hsz, HINC.out, fun x => by rw [HMEM.out x, HO.out x, List.take_of_length_le (by rw [HN.out]; exact Nat.le_refl _)], by omega, BB.out.trans (B2.out.mono hsz)⟩
set_option maxRecDepth 100000 in
set_option maxHeartbeats 1600000 in
theorem indices_any (g N : Nat) (M : List Bool) (w : World) (hN : M.length = N) (hl : N ≤ 1000) (hx : Box w g (M.map Value.bool).toArray 4) :
    Calls Try.prog 18 #[.slice (some ⟨g, 0, none⟩) N N] w (Set w (fun x => 0 ≤ x ∧ x < N ∧ M.getD x.toNat false = true) N) := by
  have HX := Lib.hid hx
  have HN := Lib.hid hN
  clear hx hN
  go_enter Try.func18, Try.ntmps18
  go_wp2
  go_loopw [3, 7] (fun ov iv wr => ∃ k : Nat, k ≤ N ∧ iv = .int .i64 k ∧ Row w.heap.size wr ov (idx M k) ∧ Below w.heap.size w wr) (fun _ iv _ => N - (intOf iv).toNat)
  case atStart => exact ⟨0, by omega, rfl, Row.nil _ _, Below.refl _ _⟩
  case round =>
    obtain ⟨k, hk, rfl, hrow, hb⟩ := hrel
    have hlen := idx_len M k
    have R := Lib.hid hrow
    have BB := Lib.hid hb
    have hsz := hb.size
    have HI : Hid (idx M (k + 1) = idx M k ++ if M.getD k false = true then [(k : Int)] else []) := Lib.hid rfl
    clear hb hrow
    by_cases hlt : k < N
    · have c0 : wr.cell? ⟨g, k, none⟩ = some (.bool (M.getD k false)) := by
        rw [BB.out.cell HX.out.lt, HX.out.cell]
        have : k < M.length := by rw [HN.out]; exact hlt
        simp [List.getD, this]
      cases hm : M.getD k false with
      | true =>
        rw [hm] at c0 HI
        clear hm
        have S2 := Lib.hid (IS.ofBox (Box.new wr #[.int .i64 (k : Int)] 3 rfl) (L := [(k : Int)]) (n := 1) (cap := 1) rfl rfl (Nat.le_refl _))
        have A2 := Lib.hid (BB.out.alloc hsz (.cells #[.int .i64 (k : Int)] 3))
        have R1 := Lib.hid (R.out.below (below1 wr (.cells #[.int .i64 (k : Int)] 3)))
        go_wp2_with (first | (at_builtin; refine wpList_app' _ rfl (.tmp 14) (.tmp 16) rfl rfl A2.out R1.out rfl S2.out (by simp; omega) ?_; intro v2 w2 r2 b2 g2; have R2 := Lib.hid r2; have B5 := Lib.hid b2; clear r2 b2 g2) | fail)
        go_roundw
        case rel => exact ⟨k + 1, by omega, by go_num, by rw [HI.out]; exact R2.out, B5.out⟩
        case measure => simp [intOf]; omega
      | false =>
        rw [hm] at c0 HI
        clear hm
        go_wp2_with fail
        go_roundw
        case rel => exact ⟨k + 1, by omega, by go_num, by rw [HI.out]; simpa using R.out, BB.out⟩
        case measure => simp [intOf]; omega
    · obtain rfl : k = N := by omega
      go_wp2_with fail
      go_ret
      exact ⟨_, _, rfl, R.out, idx_inc _ _, fun x => mem_idx _ _ _, hlen, BB.out⟩
end Go.Proofs.Ytgejijlhgimgaaa
