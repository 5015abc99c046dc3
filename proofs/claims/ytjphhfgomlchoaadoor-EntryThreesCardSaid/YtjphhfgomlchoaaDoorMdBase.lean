/- How words and entries lie in memory; whether a word is plain. -/
import Derived.Test.YtjphhfgomlchoaaDoorMdPlain
import Derived.Test.YtjphhfgomlchoaaDoorProg
namespace Go.Proofs.YtjphhfgomlchoaaDoor
open Go.ChangeShapes Go.WideShapes Go.ChangeAt Go.RowKit Go.Maps

def wdE : Enc Wd where
  k := 3
  enc x := [.int .i64 x.1, .int .u32 x.2.1, .int .u32 x.2.2]
  len _ := rfl
  one x u hu := by
    simp only [List.mem_cons, List.not_mem_nil, or_false] at hu
    rcases hu with rfl | rfl | rfl <;> rfl
  pos := by decide
def enE : Enc En where
  k := 6
  enc e := [.int .i64 e.1, .int .i64 e.2.1.1, .int .u32 e.2.1.2.1, .int .u32 e.2.1.2.2, .int .i64 e.2.2.1, .bool e.2.2.2]
  len _ := rfl
  one x u hu := by
    simp only [List.mem_cons, List.not_mem_nil, or_false] at hu
    rcases hu with rfl | rfl | rfl | rfl | rfl | rfl <;> rfl
  pos := by decide
def wdV (x : Wd) : Value := .agg #[.int .i64 x.1, .int .u32 x.2.1, .int .u32 x.2.2]
def enV (e : En) : Value := .agg #[.int .i64 e.1, .int .i64 e.2.1.1, .int .u32 e.2.1.2.1, .int .u32 e.2.1.2.2, .int .i64 e.2.2.1, .bool e.2.2.2]
abbrev WS (w : World) (v : Value) (L : List Wd) : Prop := SK wdE w v L
abbrev ES (w : World) (v : Value) (L : List En) : Prop := SK enE w v L
theorem wd_cells {w : World} {b off : Nat} {L : List Wd} (h : RdK wdE w b off L) {k : Nat} (hk : k < L.length) : w.cell? ⟨b, off + k * 3, none⟩ = some (.int .i64 (L[k]!).1) ∧ w.cell? ⟨b, off + k * 3 + 1, none⟩ = some (.int .u32 (L[k]!).2.1) ∧ w.cell? ⟨b, off + k * 3 + 2, none⟩ = some (.int .u32 (L[k]!).2.2) :=
  ⟨h k hk 0 _ rfl, h k hk 1 _ rfl, h k hk 2 _ rfl⟩
theorem en_cells {w : World} {b off : Nat} {L : List En} (h : RdK enE w b off L) {k : Nat} (hk : k < L.length) : w.cell? ⟨b, off + k * 6, none⟩ = some (.int .i64 (L[k]!).1) ∧ w.cell? ⟨b, off + k * 6 + 1, none⟩ = some (.int .i64 (L[k]!).2.1.1) ∧ w.cell? ⟨b, off + k * 6 + 2, none⟩ = some (.int .u32 (L[k]!).2.1.2.1) ∧ w.cell? ⟨b, off + k * 6 + 3, none⟩ = some (.int .u32 (L[k]!).2.1.2.2) ∧ w.cell? ⟨b, off + k * 6 + 4, none⟩ = some (.int .i64 (L[k]!).2.2.1) ∧ w.cell? ⟨b, off + k * 6 + 5, none⟩ = some (.bool (L[k]!).2.2.2) :=
  ⟨h k hk 0 _ rfl, h k hk 1 _ rfl, h k hk 2 _ rfl, h k hk 3 _ rfl, h k hk 4 _ rfl, h k hk 5 _ rfl⟩
theorem infoW : (Tryd.prog.info? 39).map (fun i => (i.zero, i.size, i.bytes)) = some (some (.agg #[.int .i64 0, .int .u32 0, .int .u32 0]), 3, 16) := by kernel_rfl
set_option maxRecDepth 100000 in
theorem ref_some (a b : Int) (w : World) : Calls Tryd.prog 67 #[.int .i64 a, .int .i64 b] w fun e w' => (∃ x y, e = .returned (.tuple #[.int .u32 x, .int .i64 y])) ∧ w' = w := by
  by_cases h1 : a < 1
  · go_enter Tryd.func67, Tryd.ntmps67
    go_wp2
    go_ret2
    exact ⟨⟨_, _, rfl⟩, rfl⟩
  by_cases h2 : 72 < a
  · go_enter Tryd.func67, Tryd.ntmps67
    go_wp2
    go_ret2
    exact ⟨⟨_, _, rfl⟩, rfl⟩
  by_cases h3 : b < 1
  · go_enter Tryd.func67, Tryd.ntmps67
    go_wp2
    go_ret2
    exact ⟨⟨_, _, rfl⟩, rfl⟩
  by_cases h4 : 16777215 < b
  · go_enter Tryd.func67, Tryd.ntmps67
    go_wp2
    go_ret2
    exact ⟨⟨_, _, rfl⟩, rfl⟩
  · go_enter Tryd.func67, Tryd.ntmps67
    go_wp2
    go_ret2
    exact ⟨⟨_, _, rfl⟩, rfl⟩
set_option maxRecDepth 100000 in
theorem who_some (r : Int) (w : World) : Calls Tryd.prog 60 #[.int .u32 r] w fun e w' => (∃ x y, e = .returned (.tuple #[.int .i64 x, .int .i64 y])) ∧ w' = w := by
  go_enter Tryd.func60, Tryd.ntmps60
  go_wp2_with fail
  refine (ref_some _ _ _).mono ?_
  rintro e w' ⟨⟨x, y, rfl⟩, rfl⟩
  by_cases hy : y = 0
  · subst hy
    go_wp2
    go_ret2
    exact ⟨⟨_, _, rfl⟩, rfl⟩
  · have hne : (y != 0) = true := by rw [bne_iff_ne]; exact hy
    go_wp2
    go_ret2
    exact ⟨⟨_, _, rfl⟩, rfl⟩
set_option maxRecDepth 100000 in
theorem valid_some (r : Int) (w : World) : Calls Tryd.prog 64 #[.int .u32 r] w fun e w' => (∃ b, e = .returned (.bool b)) ∧ w' = w := by
  go_enter Tryd.func64, Tryd.ntmps64
  go_wp2_with fail
  refine (who_some _ _).mono ?_
  rintro e w' ⟨⟨x, y, rfl⟩, rfl⟩
  go_wp2
  go_ret
  exact ⟨⟨_, rfl⟩, rfl⟩
set_option maxRecDepth 100000 in
theorem kind_some (x : Wd) (w : World) : Calls Tryd.prog 55 #[wdV x] w fun e w' => (∃ n, e = .returned (.int .i64 n) ∧ (n = 0 ↔ x.2.2 = 0)) ∧ Below w.heap.size w w' := by
  obtain ⟨a, b, r⟩ := x
  unfold wdV
  by_cases h : r = 0
  · subst h
    go_enter Tryd.func55, Tryd.ntmps55
    go_wp2_with fail
    go_ret
    exact ⟨⟨_, rfl, by simp⟩, below1 _ _⟩
  · have hb : (r == 0) = false := by rw [beq_eq_false_iff_ne]; exact h
    go_enter Tryd.func55, Tryd.ntmps55
    go_wp2_with fail
    refine (valid_some _ _).mono ?_
    rintro e w' ⟨⟨b, rfl⟩, rfl⟩
    cases b <;>
    · go_wp2_with fail
      go_ret
      exact ⟨⟨_, rfl, by simp [h]⟩, below1 _ _⟩
set_option maxRecDepth 100000 in
theorem plain_any (x : Wd) (w : World) : Calls Tryd.prog 41 #[wdV x] w fun e w' => e = .returned (.bool (decide (x.2.2 = 0))) ∧ Below w.heap.size w w' := by
  have K := Lib.hid (kind_some x)
  obtain ⟨a, b, r⟩ := x
  unfold wdV at *
  have BW := Lib.hid (below1 w (.cells #[.int .i64 a, .int .u32 b, .int .u32 r] 39))
  go_enter Tryd.func41, Tryd.ntmps41
  go_wp2_with fail
  refine (K.out _).mono ?_
  rintro e w' ⟨⟨n, rfl, hn⟩, hb⟩
  have BB := Lib.hid (BW.out.trans (hb.mono BW.out.size))
  have HN := Lib.hid hn
  clear hn hb
  go_wp2_with fail
  go_ret
  refine ⟨?_, BB.out⟩
  have e : (n == 0) = decide (r = 0) := by
    by_cases h : n = 0
    · rw [decide_eq_true (HN.out.1 h), h]; rfl
    · rw [decide_eq_false (fun h' => h (HN.out.2 h')), beq_eq_false_iff_ne]; exact h
  rw [e]; rfl
end Go.Proofs.YtjphhfgomlchoaaDoor
