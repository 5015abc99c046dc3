/- Parse of package word: what it answers at every string. -/
import Derived.Test.YthcafhdokbejkaaDoorRead
import Derived.Test.YthcafhdokbejkaaDoorText
import Derived.Test.YthcafhdokbejkaaDoorAwake
namespace Go.Proofs.YthcafhdokbejkaaDoor
open Go.RowKit Go.Shelf

/-- What Parse answers at l. -/
def Parsed (l : List UInt8) (e : Ending) : Prop :=
  (∃ v n r, e = .returned (.tuple #[.agg #[.int .i64 v, .int .u32 n, .int .u32 r], .int .i64 0]) ∧ (-9223372036854775808 ≤ v ∧ v ≤ 9223372036854775807) ∧ (0 ≤ n ∧ n < 4294967296) ∧ (0 ≤ r ∧ r < 4294967296) ∧ St1 l true v n r ∧ textOf v n r = l) ∨
  (e = .returned (.tuple #[.agg #[.int .i64 0, .int .u32 0, .int .u32 0], .int .i64 5]) ∧ ∃ v n r, St1 l false v n r ∨ (St1 l true v n r ∧ textOf v n r ≠ l))

set_option maxRecDepth 100000 in
set_option maxHeartbeats 1600000 in
theorem parse_any (l : List UInt8) (w : World) (hs : l.length ≤ 1000) (hB : 3 ≤ w.heap.size) (hw : Sen w) (ht : Tab w) :
    Calls Tryd.prog 17 #[.string ⟨l.toArray⟩] w fun e W' => Parsed l e ∧ Below w.heap.size w W' := by
  have b0 := (Below.refl _ _).alloc (Nat.le_refl _) (a := w) (.cells #[.int .i64 0, .int .u32 0, .int .u32 0] 33)
  have S0 := Lib.hid (hw.below b0)
  have T0 := Lib.hid (ht.below b0)
  have h0 := heap_alloc_new w (.cells #[.int .i64 0, .int .u32 0, .int .u32 0] 33)
  have B0 := Lib.hid b0
  have hz : w.heap.size < (w.alloc (.cells #[.int .i64 0, .int .u32 0, .int .u32 0] 33)).heap.size := by simp
  clear b0
  go_enter Tryd.func17, Tryd.ntmps17
  go_wp2_with fail
  generalize w.alloc (.cells #[.int .i64 0, .int .u32 0, .int .u32 0] 33) = w1 at *
  refine (read_any ⟨l.toArray⟩ _ (by simp [ByteArray.size]; omega) (by omega) S0.out).mono ?_
  rintro e w2 ⟨v, n, r, good, rfl, hv, hn, hr, hst, hb⟩
  have HST := Lib.hid (show St1 l good v n r by simpa using hst)
  have h0' := (hb.block _ hz).trans h0
  have B2 := Lib.hid (B0.out.trans (hb.mono (Nat.le_of_lt hz)))
  have T2 := Lib.hid ((T0.out.below hb).below ((Below.refl _ _).alloc (Nat.le_refl _) (.cells #[.int .i64 v, .int .u32 n, .int .u32 r] 33)))
  have hz2 : w.heap.size < w2.heap.size := lt_of_block h0'
  have B3 := Lib.hid (B2.out.alloc (Nat.le_of_lt hz2) (.cells #[.int .i64 v, .int .u32 n, .int .u32 r] 33))
  have h1 := heap_alloc_new w2 (.cells #[.int .i64 v, .int .u32 n, .int .u32 r] 33)
  have h2 := (Below.heap_alloc w2 (.cells #[.int .i64 v, .int .u32 n, .int .u32 r] 33) _ hz2).trans h0'
  have K0 := Lib.hid h0'
  have hne : ¬ w.heap.size = w2.heap.size := by omega
  clear hst hb h0 h0' S0 T0 B0
  cases good with
  | false =>
    obtain ⟨⟨d0, d1, d2⟩, f0, f1, f2⟩ := three_cells h2
    have hf := set_three (u := .int .u32 0) (set_three (u := .int .u32 0) (set_three (u := .int .i64 0) h2 0 (by omega)) 1 (by omega)) 2 (by omega)
    obtain ⟨⟨e0, e1, e2⟩, -⟩ := three_cells hf
    obtain ⟨⟨m0, m1, m2⟩, p0, p1, p2⟩ := three_cells K0.out
    have hg := set_three (u := .int .u32 0) (set_three (u := .int .u32 0) (set_three (u := .int .i64 0) K0.out 0 (by omega)) 1 (by omega)) 2 (by omega)
    have hh := (Below.heap_alloc _ (.cells #[.int .i64 v, .int .u32 n, .int .u32 r] 33) _ (lt_of_block hg)).trans hg
    obtain ⟨⟨a0, a1, a2⟩, -⟩ := three_cells hh
    have BF := Lib.hid ((((B2.out.setCell (p := ⟨w.heap.size, 0, none⟩) (by simp) (.int .i64 0)).setCell (p := ⟨w.heap.size, 1, none⟩) (by simp) (.int .u32 0)).setCell (p := ⟨w.heap.size, 2, none⟩) (by simp) (.int .u32 0)).alloc (Nat.le_of_lt (lt_of_block hg)) (.cells #[.int .i64 v, .int .u32 n, .int .u32 r] 33))
    go_wp2
    refine bodyPost_ret (v := .tuple #[.agg #[.int .i64 0, .int .u32 0, .int .u32 0], .int .i64 5]) (by simp [results, Tryd.f17, go_sem, a0, a1, a2]) rfl ?_
    exact ⟨.inr ⟨rfl, v, n, r, .inl HST.out⟩, BF.out⟩
  | true =>
    obtain ⟨⟨y0, y1, y2⟩, -⟩ := three_cells h1
    go_wp2_with fail
    clear y0 y1 y2 K0 hne
    generalize w2.alloc (.cells #[.int .i64 v, .int .u32 n, .int .u32 r] 33) = w3 at *
    generalize w2.heap.size = b2 at *
    refine (text_any v n r _ hv.1 hv.2 hn.1 hn.2 hr.1 hr.2 T2.out).mono ?_
    rintro e w4 ⟨rfl, hb⟩
    have hw3 : w.heap.size < w3.heap.size := lt_of_block h2
    have h3 := (hb.block _ hw3).trans h2
    have h4 := (hb.block _ (lt_of_block h1)).trans h1
    have B4 := Lib.hid (B3.out.trans (hb.mono (Nat.le_of_lt hw3)))
    clear hb h1 h2 B3 T2
    obtain ⟨⟨d0, d1, d2⟩, f0, f1, f2⟩ := three_cells h3
    obtain ⟨⟨y0, y1, y2⟩, -⟩ := three_cells h4
    by_cases heq : textOf v n r = l
    · have hf := set_three (u := .int .u32 r) (set_three (u := .int .u32 n) (set_three (u := .int .i64 v) h3 0 (by omega)) 1 (by omega)) 2 (by omega)
      obtain ⟨⟨e0, e1, e2⟩, -⟩ := three_cells hf
      have BF := Lib.hid (((B4.out.setCell (p := ⟨w.heap.size, 0, none⟩) (by simp) (.int .i64 v)).setCell (p := ⟨w.heap.size, 1, none⟩) (by simp) (.int .u32 n)).setCell (p := ⟨w.heap.size, 2, none⟩) (by simp) (.int .u32 r))
      have HE := Lib.hid heq
      rw [heq]
      clear heq
      go_wp2
      refine bodyPost_ret (v := .tuple #[.agg #[.int .i64 v, .int .u32 n, .int .u32 r], .int .i64 0]) (by simp [results, Tryd.f17, go_sem, e0, e1, e2]) rfl ?_
      exact ⟨.inl ⟨v, n, r, rfl, hv, hn, hr, HST.out, HE.out⟩, BF.out⟩
    · have hf := set_three (u := .int .u32 0) (set_three (u := .int .u32 0) (set_three (u := .int .i64 0) h3 0 (by omega)) 1 (by omega)) 2 (by omega)
      obtain ⟨⟨e0, e1, e2⟩, -⟩ := three_cells hf
      have BF := Lib.hid (((B4.out.setCell (p := ⟨w.heap.size, 0, none⟩) (by simp) (.int .i64 0)).setCell (p := ⟨w.heap.size, 1, none⟩) (by simp) (.int .u32 0)).setCell (p := ⟨w.heap.size, 2, none⟩) (by simp) (.int .u32 0))
      have HX := Lib.hid (show textOf v n r ≠ l from heq)
      have hbq : (textOf v n r == l) = false := beq_eq_false_iff_ne.2 heq
      clear heq
      go_wp2
      refine bodyPost_ret (v := .tuple #[.agg #[.int .i64 0, .int .u32 0, .int .u32 0], .int .i64 5]) (by simp [results, Tryd.f17, go_sem, e0, e1, e2]) rfl ?_
      exact ⟨.inr ⟨rfl, v, n, r, .inr ⟨HST.out, HX.out⟩⟩, BF.out⟩
end Go.Proofs.YthcafhdokbejkaaDoor
