/- The reference's unlike: the distinct elements. -/
import Derived.Test.YtknnnjnnphdipaaRcAwake
namespace Go.Proofs.Ytknnnjnnphdipaa
open Go.ChangeShapes Go.WideShapes Go.ChangeAt Go.RowKit Go.Maps
theorem infoQ : (Try.prog.info? 2).map (fun i => (i.zero, i.size, i.bytes)) = some (some (.int .i64 0), 1, 8) := by kernel_rfl
theorem Row.addr {t : TypeId} {B : Nat} {w : World} {a : Option Addr} {n c k : Nat} {L : List Int} (h : Row t B w (.slice a n c) L) (hk : k < n) : ∃ b off, a = some ⟨b, off, none⟩ ∧ b < w.heap.size ∧ ∀ i, i < n → w.cell? ⟨b, off + i, none⟩ = some (.int .i64 (L.getD i 0)) := h.is.addr hk
theorem take_succ_getDJ (L : List Int) {k : Nat} (h : k < L.length) : L.take (k + 1) = L.take k ++ [L.getD k 0] := by
  rw [List.take_succ_eq_append_getElem h, List.getD, List.getElem?_eq_getElem h]; rfl
/-- What unlike answers. -/
def Unl (A : List Int) (w : World) (e : Ending) (w' : World) : Prop := ∃ u U, e = .returned u ∧ Row 2 w.heap.size w' u U ∧ U.Nodup ∧ (∀ x, x ∈ U ↔ x ∈ A) ∧ U.length ≤ A.length ∧ Below w.heap.size w w'
set_option maxRecDepth 100000 in
set_option maxHeartbeats 3200000 in
theorem unlike_any (v : Value) (A : List Int) (w : World) (hv : IS w v A) (hl : A.length ≤ 1000) : Calls Try.prog 28 #[v] w (Unl A w) := by
  have H := Lib.hid hv
  obtain ⟨a, c, rfl⟩ := hv.form
  clear hv
  obtain ⟨n, hn⟩ : ∃ n, A.length = n := ⟨_, rfl⟩
  rw [hn] at hl H ⊢
  have HN := Lib.hid hn
  clear hn
  go_enter Try.func28, Try.ntmps28
  go_wp2_with fail
  go_loopw [3, 4] (fun ov iv wr => ∃ k : Nat, ∃ U, k ≤ n ∧ iv = .int .i64 k ∧ Row 2 w.heap.size wr ov U ∧ U.Nodup ∧ (∀ x, x ∈ U ↔ x ∈ A.take k) ∧ U.length ≤ k ∧ Below w.heap.size w wr) (fun _ iv _ => n - (intOf iv).toNat)
  case atStart => exact ⟨0, [], by omega, rfl, Row.nil _ _ _, List.nodup_nil, by simp, by simp, Below.refl _ _⟩
  case round =>
    obtain ⟨k, U, hk, rfl, hr, hnd, hm, hul, hb⟩ := hrel
    have R := Lib.hid hr
    have ND := Lib.hid hnd
    have HM := Lib.hid hm
    have BB := Lib.hid hb
    obtain ⟨oa, oc, rfl, -⟩ := hr.form
    clear hr hnd hm hb
    obtain ⟨m, hm⟩ : ∃ m, U.length = m := ⟨_, rfl⟩
    rw [hm] at hul R ⊢
    have HL := Lib.hid hm
    clear hm
    by_cases hlt : k < n
    · obtain ⟨b, off, rfl, hbl, hc⟩ := H.out.addr hlt
      have C0 := Lib.hid ((BB.out.cell (p := ⟨b, _, none⟩) hbl).trans (hc k hlt))
      have hbr : b < wr.heap.size := Nat.lt_of_lt_of_le hbl BB.out.size
      have HT := Lib.hid (take_succ_getDJ A (k := k) (by rw [HN.out]; exact hlt))
      clear hc
      obtain ⟨x, hx⟩ : ∃ y, A.getD k 0 = y := ⟨_, rfl⟩
      rw [hx] at C0 HT
      clear hx
      go_wp2_with fail
      obtain ⟨wo, rfl⟩ : ∃ wo, wo = wr := ⟨_, rfl⟩
      go_loopw [5, 6] (fun mv jv wr => ∃ j : Nat, j ≤ m ∧ jv = .int .i64 j ∧ mv = .bool (inL (U.take j) x) ∧ Below wo.heap.size wo wr) (fun _ jv _ => m - (intOf jv).toNat)
      case atStart => exact ⟨0, by omega, rfl, by simp [inL], Below.refl _ _⟩
      case round =>
        obtain ⟨j, hj, rfl, rfl, hb⟩ := hrel
        have B2 := Lib.hid hb
        clear hb
        by_cases hjm : j < m
        · obtain ⟨b2, off2, rfl, hbl2, hc2⟩ := R.out.addr hjm
          have d0 := (B2.out.cell (p := ⟨b2, _, none⟩) hbl2).trans (hc2 j hjm)
          have d1 := (B2.out.cell (p := ⟨b, _, none⟩) hbr).trans C0.out
          have HU := Lib.hid (take_succ_getDJ U (k := j) (by rw [HL.out]; exact hjm))
          clear hc2
          obtain ⟨y, hy⟩ : ∃ y, U.getD j 0 = y := ⟨_, rfl⟩
          rw [hy] at d0 HU
          clear hy
          cases hin : inL (U.take j) x with
          | true =>
            have HI := Lib.hid hin
            clear hin
            go_wp2
            go_quiet (fail)
            go_wp2
            go_roundw
            case rel => exact ⟨j + 1, by omega, by go_num, by rw [HU.out, inL_app, HI.out]; rfl, below_drewN B2.out _⟩
            case measure => simp [intOf]; omega
          | false =>
            have HI := Lib.hid hin
            clear hin
            by_cases he : y = x
            · subst he
              go_wp2
              go_quiet (fail)
              go_wp2
              go_roundw
              case rel => exact ⟨j + 1, by omega, by go_num, by rw [HU.out, inL_app, HI.out]; simp, below_drewN B2.out _⟩
              case measure => simp [intOf]; omega
            · have he' : (y == x) = false := by rw [beq_eq_false_iff_ne]; exact he
              go_wp2
              go_quiet (fail)
              go_wp2
              go_roundw
              case rel => exact ⟨j + 1, by omega, by go_num, by rw [HU.out, inL_app, HI.out]; simp [he], below_drewN B2.out _⟩
              case measure => simp [intOf]; omega
        · obtain rfl : j = m := by omega
          have UT : Hid (U.take j = U) := Lib.hid (List.take_of_length_le (by rw [HL.out]; exact Nat.le_refl _))
          rw [UT.out]
          have B3 := Lib.hid (BB.out.trans (B2.out.mono BB.out.size))
          have R3 := Lib.hid (R.out.below B2.out)
          have c1 := (B2.out.cell (p := ⟨b, _, none⟩) hbr).trans C0.out
          clear UT
          cases hin : inL U x with
          | true =>
            have HI := Lib.hid hin
            clear hin
            go_wp2_with fail
            go_roundw
            case rel =>
              refine ⟨k + 1, U, by omega, by go_num, R3.out, ND.out, fun z => ?_, by rw [HL.out]; omega, B3.out⟩
              rw [HT.out, List.mem_append, ← HM.out z]
              constructor
              · exact fun h => .inl h
              · rintro (h | h)
                · exact h
                · simp at h; subst h; exact (inL_iff U z).1 HI.out
            case measure => simp [intOf]; omega
          | false =>
            have HI := Lib.hid (show x ∉ U from fun h => by have := (inL_iff U x).2 h; rw [hin] at this; cases this)
            clear hin
            have C2 := Lib.hid (IS.ofBox (Box.new wr #[.int .i64 x] 2 rfl) (L := [x]) (n := 1) (cap := 1) rfl rfl (Nat.le_refl _))
            have R4 := Lib.hid (R3.out.below (below1 wr (.cells #[.int .i64 x] 2)))
            have B4 := Lib.hid (B3.out.alloc B3.out.size (.cells #[.int .i64 x] 2))
            clear R3 B3 R
            go_wp2_with (first
              | (at_builtin; refine wpList_app' Try.underlying38 infoQ _ rfl (.tmp 33) (.tmp 38) rfl rfl B4.out R4.out rfl C2.out (by rw [HL.out]; simp; omega) ?_; intro v5 w5 r5 b5 g5; have R5 := Lib.hid r5; have B5 := Lib.hid b5; clear r5 b5 g5)
              | fail)
            go_roundw
            case rel =>
              refine ⟨k + 1, U ++ [x], by omega, by go_num, R5.out, ?_, fun z => ?_, by simp [HL.out]; omega, B5.out⟩
              · rw [List.nodup_append]
                refine ⟨ND.out, by simp, fun p hp q hq => ?_⟩
                simp at hq
                subst hq
                rintro rfl
                exact HI.out hp
              · rw [HT.out, List.mem_append, List.mem_append, HM.out z]
            case measure => simp [intOf]; omega
    · obtain rfl : k = n := by omega
      go_wp2_with fail
      go_ret
      refine ⟨_, U, rfl, R.out, ND.out, fun x => ?_, by rw [HL.out, HN.out]; omega, BB.out⟩
      rw [HM.out x, List.take_of_length_le (by rw [HN.out]; exact Nat.le_refl _)]
end Go.Proofs.Ytknnnjnnphdipaa
