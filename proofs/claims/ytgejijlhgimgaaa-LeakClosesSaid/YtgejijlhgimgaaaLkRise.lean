/- Rising and Less of the reference. -/
import Derived.Test.YtgejijlhgimgaaaLkRef
namespace Go.Proofs.Ytgejijlhgimgaaa
open Go.ChangeShapes Go.WideShapes Go.ChangeAt Go.RowKit Go.Maps

theorem IS.take {w : World} {a : Option Addr} {n cap k : Nat} {L : List Int} (h : IS w (.slice a n cap) L) (hk : k ≤ n) : IS w (.slice a k cap) (L.take k) := by
  obtain ⟨a', cap', e, hcap, h⟩ := h
  injection e with e1 e2 e3
  subst e1 e2 e3
  refine ⟨a, cap, by rw [List.length_take, Nat.min_eq_left hk], by rw [List.length_take]; omega, ?_⟩
  rcases h with h | ⟨b, off, ha, hl, hc⟩
  · subst h; exact .inl (by simp)
  · refine .inr ⟨b, off, ha, hl, fun i hi => ?_⟩
    rw [List.length_take] at hi
    rw [hc i (by omega)]
    simp [List.getD, show i < k by omega]
theorem IS.drop {w : World} {g n cap k c : Nat} {L : List Int} (h : IS w (.slice (some ⟨g, 0, none⟩) n cap) L) (hk : k ≤ n) (hc : n - k ≤ c) : IS w (.slice (some ⟨g, k, none⟩) (n - k) c) (L.drop k) := by
  obtain ⟨a', cap', e, hcap, h⟩ := h
  injection e with e1 e2 e3
  subst e1 e2 e3
  refine ⟨_, c, by rw [List.length_drop], by rw [List.length_drop]; exact hc, ?_⟩
  rcases h with h | ⟨b, off, ha, hl, hc⟩
  · subst h; exact .inl (by simp)
  · refine .inr ⟨b, k, by injection ha with ha; injection ha with h1 h2; rw [h1], hl, fun i hi => ?_⟩
    rw [List.length_drop] at hi
    injection ha with ha
    injection ha with h1 h2
    have := hc (k + i) (by omega)
    rw [← h2, Nat.zero_add] at this
    rw [this]
    simp [List.getD]
set_option maxRecDepth 100000 in
set_option maxHeartbeats 3200000 in
theorem rising_any (v : Value) (L : List Int) (w : World) (hl : L.length ≤ 1000) (h : IS w v L) :
    Calls Try.prog 16 #[v] w fun e w' => ∃ u R, e = .returned u ∧ Row w.heap.size w' u R ∧ Inc R ∧ (∀ x, x ∈ R ↔ x ∈ L) ∧ R.length ≤ L.length ∧ Below w.heap.size w w' := by
  obtain ⟨a, cap, rfl, hcap, h⟩ := h
  have H := Lib.hid h
  clear h
  obtain ⟨n, hn⟩ : ∃ n, L.length = n := ⟨_, rfl⟩
  rw [hn] at hl ⊢
  have HN := Lib.hid hn
  clear hn hcap
  go_enter Try.func16, Try.ntmps16
  go_wp2
  go_loopw [3, 4] (fun ov iv wr => ∃ k : Nat, ∃ out, k ≤ n ∧ iv = .int .i64 k ∧ Row w.heap.size wr ov out ∧ Inc out ∧ (∀ x, x ∈ out ↔ x ∈ L.take k) ∧ out.length ≤ k ∧ Below w.heap.size w wr) (fun _ iv _ => n - (intOf iv).toNat)
  case atStart => exact ⟨0, [], by omega, rfl, Row.nil _ _, Inc.nil, by simp, by simp, Below.refl _ _⟩
  case round =>
    obtain ⟨k, out, hk, rfl, hrow, hinc, hmem, hlen, hb⟩ := hrel
    have R := Lib.hid hrow
    have BB := Lib.hid hb
    have HI := Lib.hid hinc
    have HM := Lib.hid hmem
    have hsz := hb.size
    obtain ⟨ao, co, rfl, hco⟩ := hrow.form
    clear hb hinc hmem hrow
    obtain ⟨m, hm⟩ : ∃ m, out.length = m := ⟨_, rfl⟩
    rw [hm] at hlen R hco
    try rw [hm]
    have HL := Lib.hid hm
    clear hm
    by_cases hlt : k < n
    · rcases H.out with h | ⟨b, off, rfl, hbl, hc⟩
      · rw [h] at HN; have := HN.out; simp at this; omega
      have c0 := hc k (by rw [HN.out]; exact hlt)
      have HT := Lib.hid (take_succ_getDI L (k := k) (by rw [HN.out]; exact hlt))
      rw [← BB.out.cell hbl] at c0
      have HC := Lib.hid hc
      clear hc
      obtain ⟨x, hx⟩ : ∃ y, L.getD k 0 = y := ⟨_, rfl⟩
      rw [hx] at c0 HT
      have HX := Lib.hid hx
      clear hx
      have HA := Lib.hid (in_any _ out x wr (by rw [HL.out]; omega) R.out.is)
      have HQ := Lib.hid (inL_iff out x)
      obtain ⟨r, hr⟩ : ∃ r, inL out x = r := ⟨_, rfl⟩
      rw [hr] at HA HQ
      clear hr
      cases r with
      | true =>
        have hx := Lib.hid ((HM.out x).1 (HQ.out.1 rfl))
        go_wp2_with fail
        refine HA.out.mono ?_
        rintro e w' ⟨rfl, rfl⟩
        go_wp2_with fail
        go_roundw
        case rel =>
          refine ⟨k + 1, out, by omega, by go_num, R.out, HI.out, fun y => ?_, by rw [HL.out]; omega, BB.out⟩
          rw [HT.out, HM.out y]
          simp
          rintro rfl
          exact hx.out
        case measure => simp [intOf]; omega
      | false =>
        have hnot : Hid (x ∉ out) := Lib.hid (fun hm => by have := HQ.out.2 hm; cases this)
        clear HQ
        go_wp2_with fail
        refine HA.out.mono ?_
        rintro e w' ⟨rfl, rfl⟩
        clear HA
        go_wp2_with fail
        obtain ⟨wo, rfl⟩ : ∃ wo, wo = wr := ⟨_, rfl⟩
        go_loopw [5] (fun jv wr => ∃ j : Nat, j ≤ m ∧ jv = .int .i64 j ∧ (∀ i, i < j → out.getD i 0 < x) ∧ Below wo.heap.size wo wr) (fun jv _ => m - (intOf jv).toNat)
        case atStart => exact ⟨0, by omega, rfl, fun i hi => by omega, Below.refl _ _⟩
        case round =>
          obtain ⟨j, hj, rfl, hless, hb⟩ := hrel
          have B2 := Lib.hid hb
          have HS := Lib.hid hless
          have hsz2 := hb.size
          clear hb hless
          by_cases hjm : j < m
          · obtain ⟨g, cap', e, hg1, hg2⟩ := World.ownsRow.form (show wo.ownsRow w.heap.size 3 1 _ out.length (flat out) from R.out) (by rw [HL.out]; omega)
            injection e with e1 e2 e3
            clear e2
            subst e1 e3
            obtain ⟨y, hy⟩ : ∃ y, out.getD j 0 = y := ⟨_, rfl⟩
            have d0 : wr.cell? ⟨g, j, none⟩ = some (.int .i64 y) := by
              obtain ⟨a', c', e, _, h | ⟨b', o', e', hl', hc'⟩⟩ := R.out.is
              · rw [h] at HL; have := HL.out; simp at this; omega
              · injection e with e1 e2 e3
                rw [e'] at e1
                injection e1 with e1
                injection e1 with e1 e4
                subst e1 e4
                rw [← hy, B2.out.cell hg2]
                have := hc' j (by rw [HL.out]; exact hjm)
                rwa [Nat.zero_add] at this
            have d1 : wr.cell? ⟨b, off + k, none⟩ = some (.int .i64 x) := by rw [B2.out.cell (p := ⟨b, off + k, none⟩) (by show b < _; omega)]; exact c0
            have HY := Lib.hid hy
            clear hy
            by_cases hyx : y < x
            · go_wp2
              go_quiet (fail)
              go_wp2
              go_roundw
              case rel =>
                refine ⟨j + 1, by omega, by go_num, fun i hi => ?_, below_drewN B2.out _⟩
                by_cases e : i = j
                · subst e; rw [HY.out]; exact hyx
                · exact HS.out i (by omega)
              case measure => simp [intOf]; omega
            · have EX := Lib.hid (show j = m ∨ ¬ out.getD j 0 < x from .inr (by rw [HY.out]; exact hyx))
              go_wp2
              go_quiet (fail)
              have B3 := Lib.hid (below_drewN B2.out nq)
              generalize wr.drewN nq = W at B3 ⊢
              have hsz3 := B3.out.size
              have hj0 : (0 : Int) ≤ j := by omega
              have hcj : ¬ co = j := by omega
              have A1 := Lib.hid (B3.out.alloc hsz3 (.cells #[] 3))
              have E1 := Lib.hid (Row.ofBox (B := wo.heap.size) (Box.new W #[] 3 rfl) hsz3 (L := []) rfl rfl (by simp))
              have S1 := Lib.hid ((R.out.is.below A1.out).take (k := j) (by omega))
              go_wp2_with (first | (at_builtin; refine wpList_app' _ rfl (.tmp 36) (.tmp 39) rfl rfl A1.out E1.out rfl S1.out (by simp <;> (try rw [HL.out]) <;> omega) ?_; intro v1 w1 r1 b1 g1; have R1 := Lib.hid r1; have B4 := Lib.hid b1; have d2 : w1.cell? ⟨b, off + k, none⟩ = some (.int .i64 x) := (by rw [b1.cell (p := ⟨b, off + k, none⟩) (by show b < _; omega)]; exact c0); have hsz4 := b1.size; have S2 := Lib.hid (IS.ofBox (Box.new w1 #[.int .i64 x] 3 rfl) (L := [x]) (n := 1) (cap := 1) rfl rfl (Nat.le_refl _)); have A2 := Lib.hid (b1.alloc hsz4 (.cells #[.int .i64 x] 3)); replace R1 := Lib.hid (R1.out.below (below1 w1 (.cells #[.int .i64 x] 3))); clear r1 b1 g1) | (at_builtin; refine wpList_app' _ rfl (.tmp 41) (.tmp 46) rfl rfl A2.out R1.out rfl S2.out (by simp <;> (try rw [HL.out]) <;> omega) ?_; intro v2 w2 r2 b2 g2; have R2 := Lib.hid r2; have B5 := Lib.hid b2; have hsz5 := b2.size; clear r2 b2 g2) | (at_builtin; refine wpList_app' _ rfl (.tmp 48) (.tmp 51) rfl rfl B5.out R2.out rfl ((R.out.is.below B5.out).drop (k := j) (by omega) (by omega)) (by simp <;> (try rw [HL.out]) <;> omega) ?_; intro v3 w3 r3 b3 g3; have R3 := Lib.hid r3; have B6 := Lib.hid b3; have hsz6 := b3.size; clear r3 b3 g3) | fail)
              go_roundw
              case rel =>
                refine ⟨k + 1, _, by omega, by go_num, R3.out.mono BB.out.size, ?_, fun y => ?_, ?_, BB.out.trans (B6.out.mono BB.out.size)⟩
                · exact HI.out.insert hnot.out (by rw [HL.out]; exact hj) HS.out (by rw [HL.out]; have e := EX.out; omega)
                · rw [HT.out, List.nil_append, mem_insert, List.mem_append, List.mem_append, HM.out y]
                · rw [List.nil_append, len_insert, HL.out]; omega
              case measure => simp [intOf]; omega
          · have EX := Lib.hid (show j = m ∨ ¬ out.getD j 0 < x from .inl (by omega))
            obtain rfl : j = m := by omega
            rcases (show wo.ownsRow w.heap.size 3 1 _ out.length (flat out) from R.out).2 with ⟨e, e0⟩ | ⟨g, cap', cur, e, hg1, hg2, -⟩
            · injection e with e1 e2 e3
              rw [HL.out] at e0
              clear e2
              subst e1 e3
              have HSx := Lib.hid HS.out
              subst e0
              go_wp2
              go_quiet (fail)
              have B3 := Lib.hid (below_drewN B2.out nq)
              generalize wr.drewN nq = W at B3 ⊢
              have hsz3 := B3.out.size
              have A1 := Lib.hid (B3.out.alloc hsz3 (.cells #[] 3))
              have E1 := Lib.hid (Row.ofBox (B := wo.heap.size) (Box.new W #[] 3 rfl) hsz3 (L := []) rfl rfl (by simp))
              have S1 := Lib.hid ((R.out.is.below A1.out).take (k := 0) (by omega))
              go_wp2_with (first | (at_builtin; refine wpList_app' _ rfl (.tmp 36) (.tmp 39) rfl rfl A1.out E1.out rfl S1.out (by simp <;> (try rw [HL.out]) <;> omega) ?_; intro v1 w1 r1 b1 g1; have R1 := Lib.hid r1; have B4 := Lib.hid b1; have d2 : w1.cell? ⟨b, off + k, none⟩ = some (.int .i64 x) := (by rw [b1.cell (p := ⟨b, off + k, none⟩) (by show b < _; omega)]; exact c0); have hsz4 := b1.size; have S2 := Lib.hid (IS.ofBox (Box.new w1 #[.int .i64 x] 3 rfl) (L := [x]) (n := 1) (cap := 1) rfl rfl (Nat.le_refl _)); have A2 := Lib.hid (b1.alloc hsz4 (.cells #[.int .i64 x] 3)); replace R1 := Lib.hid (R1.out.below (below1 w1 (.cells #[.int .i64 x] 3))); clear r1 b1 g1) | (at_builtin; refine wpList_app' _ rfl (.tmp 41) (.tmp 46) rfl rfl A2.out R1.out rfl S2.out (by simp <;> (try rw [HL.out]) <;> omega) ?_; intro v2 w2 r2 b2 g2; have R2 := Lib.hid r2; have B5 := Lib.hid b2; have hsz5 := b2.size; clear r2 b2 g2) | (at_builtin; refine wpList_app' _ rfl (.tmp 48) (.tmp 51) rfl rfl B5.out R2.out rfl (show IS _ _ (out.drop 0) from by rw [List.drop_of_length_le (by rw [HL.out]; exact Nat.le_refl _)]; exact IS.nil _ _ _) (by simp <;> (try rw [HL.out]) <;> omega) ?_; intro v3 w3 r3 b3 g3; have R3 := Lib.hid r3; have B6 := Lib.hid b3; have hsz6 := b3.size; clear r3 b3 g3) | fail)
              go_roundw
              case rel =>
                refine ⟨k + 1, _, by omega, by go_num, R3.out.mono BB.out.size, ?_, fun y => ?_, ?_, BB.out.trans (B6.out.mono BB.out.size)⟩
                · exact HI.out.insert hnot.out (by rw [HL.out]; exact hj) HS.out (by rw [HL.out]; have e := EX.out; omega)
                · rw [HT.out, List.nil_append, mem_insert, List.mem_append, List.mem_append, HM.out y]
                · rw [List.nil_append, len_insert, HL.out]; omega
              case measure => simp [intOf]; omega
            · injection e with e1 e2 e3
              clear e2
              subst e1 e3
              have hgl := lt_block hg2
              clear hg2
              by_cases hcj : co = j
              · obtain rfl : j = co := hcj.symm
                clear hcj
                go_wp2
                go_quiet (fail)
                have B3 := Lib.hid (below_drewN B2.out nq)
                generalize wr.drewN nq = W at B3 ⊢
                have hsz3 := B3.out.size
                have hj0 : (0 : Int) ≤ j := by omega
                have A1 := Lib.hid (B3.out.alloc hsz3 (.cells #[] 3))
                have E1 := Lib.hid (Row.ofBox (B := wo.heap.size) (Box.new W #[] 3 rfl) hsz3 (L := []) rfl rfl (by simp))
                have S1 := Lib.hid ((R.out.is.below A1.out).take (k := j) (by omega))
                go_wp2_with (first | (at_builtin; refine wpList_app' _ rfl (.tmp 36) (.tmp 39) rfl rfl A1.out E1.out rfl S1.out (by simp <;> (try rw [HL.out]) <;> omega) ?_; intro v1 w1 r1 b1 g1; have R1 := Lib.hid r1; have B4 := Lib.hid b1; have d2 : w1.cell? ⟨b, off + k, none⟩ = some (.int .i64 x) := (by rw [b1.cell (p := ⟨b, off + k, none⟩) (by show b < _; omega)]; exact c0); have hsz4 := b1.size; have S2 := Lib.hid (IS.ofBox (Box.new w1 #[.int .i64 x] 3 rfl) (L := [x]) (n := 1) (cap := 1) rfl rfl (Nat.le_refl _)); have A2 := Lib.hid (b1.alloc hsz4 (.cells #[.int .i64 x] 3)); replace R1 := Lib.hid (R1.out.below (below1 w1 (.cells #[.int .i64 x] 3))); clear r1 b1 g1) | (at_builtin; refine wpList_app' _ rfl (.tmp 41) (.tmp 46) rfl rfl A2.out R1.out rfl S2.out (by simp <;> (try rw [HL.out]) <;> omega) ?_; intro v2 w2 r2 b2 g2; have R2 := Lib.hid r2; have B5 := Lib.hid b2; have hsz5 := b2.size; clear r2 b2 g2) | (at_builtin; refine wpList_app' _ rfl (.tmp 48) (.tmp 51) rfl rfl B5.out R2.out rfl (show IS _ _ (out.drop j) from by rw [List.drop_of_length_le (by rw [HL.out]; exact Nat.le_refl _)]; exact IS.nil _ _ _) (by simp <;> (try rw [HL.out]) <;> omega) ?_; intro v3 w3 r3 b3 g3; have R3 := Lib.hid r3; have B6 := Lib.hid b3; have hsz6 := b3.size; clear r3 b3 g3) | fail)
                go_roundw
                case rel =>
                  refine ⟨k + 1, _, by omega, by go_num, R3.out.mono BB.out.size, ?_, fun y => ?_, ?_, BB.out.trans (B6.out.mono BB.out.size)⟩
                  · exact HI.out.insert hnot.out (by rw [HL.out]; exact hj) HS.out (by rw [HL.out]; have e := EX.out; omega)
                  · rw [HT.out, List.nil_append, mem_insert, List.mem_append, List.mem_append, HM.out y]
                  · rw [List.nil_append, len_insert, HL.out]; omega
                case measure => simp [intOf]; omega
              · go_wp2
                go_quiet (fail)
                have B3 := Lib.hid (below_drewN B2.out nq)
                generalize wr.drewN nq = W at B3 ⊢
                have hsz3 := B3.out.size
                have hj0 : (0 : Int) ≤ j := by omega
                have A1 := Lib.hid (B3.out.alloc hsz3 (.cells #[] 3))
                have E1 := Lib.hid (Row.ofBox (B := wo.heap.size) (Box.new W #[] 3 rfl) hsz3 (L := []) rfl rfl (by simp))
                have S1 := Lib.hid ((R.out.is.below A1.out).take (k := j) (by omega))
                go_wp2_with (first | (at_builtin; refine wpList_app' _ rfl (.tmp 36) (.tmp 39) rfl rfl A1.out E1.out rfl S1.out (by simp <;> (try rw [HL.out]) <;> omega) ?_; intro v1 w1 r1 b1 g1; have R1 := Lib.hid r1; have B4 := Lib.hid b1; have d2 : w1.cell? ⟨b, off + k, none⟩ = some (.int .i64 x) := (by rw [b1.cell (p := ⟨b, off + k, none⟩) (by show b < _; omega)]; exact c0); have hsz4 := b1.size; have S2 := Lib.hid (IS.ofBox (Box.new w1 #[.int .i64 x] 3 rfl) (L := [x]) (n := 1) (cap := 1) rfl rfl (Nat.le_refl _)); have A2 := Lib.hid (b1.alloc hsz4 (.cells #[.int .i64 x] 3)); replace R1 := Lib.hid (R1.out.below (below1 w1 (.cells #[.int .i64 x] 3))); clear r1 b1 g1) | (at_builtin; refine wpList_app' _ rfl (.tmp 41) (.tmp 46) rfl rfl A2.out R1.out rfl S2.out (by simp <;> (try rw [HL.out]) <;> omega) ?_; intro v2 w2 r2 b2 g2; have R2 := Lib.hid r2; have B5 := Lib.hid b2; have hsz5 := b2.size; clear r2 b2 g2) | (at_builtin; refine wpList_app' _ rfl (.tmp 48) (.tmp 51) rfl rfl B5.out R2.out rfl (show IS _ _ (out.drop j) from by rw [List.drop_of_length_le (by rw [HL.out]; exact Nat.le_refl _)]; exact IS.nil _ _ _) (by simp <;> (try rw [HL.out]) <;> omega) ?_; intro v3 w3 r3 b3 g3; have R3 := Lib.hid r3; have B6 := Lib.hid b3; have hsz6 := b3.size; clear r3 b3 g3) | fail)
                go_roundw
                case rel =>
                  refine ⟨k + 1, _, by omega, by go_num, R3.out.mono BB.out.size, ?_, fun y => ?_, ?_, BB.out.trans (B6.out.mono BB.out.size)⟩
                  · exact HI.out.insert hnot.out (by rw [HL.out]; exact hj) HS.out (by rw [HL.out]; have e := EX.out; omega)
                  · rw [HT.out, List.nil_append, mem_insert, List.mem_append, List.mem_append, HM.out y]
                  · rw [List.nil_append, len_insert, HL.out]; omega
                case measure => simp [intOf]; omega
    · go_wp2
      go_ret
      obtain rfl : k = n := by omega
      exact ⟨_, out, rfl, by have := R.out; unfold Row at *; rw [HL.out] at *; exact this, HI.out, fun x => by rw [HM.out x, List.take_of_length_le (by rw [HN.out]; exact Nat.le_refl _)], by rw [HL.out]; exact hlen, BB.out⟩
end Go.Proofs.Ytgejijlhgimgaaa
