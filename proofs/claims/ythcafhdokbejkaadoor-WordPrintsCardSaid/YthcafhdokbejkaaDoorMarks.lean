/- strings.IndexAny of the three marks. -/
import Derived.Test.YthcafhdokbejkaaDoorRune
import Derived.Deep.LoopGhost
import Derived.Lib.OthersKept
import Derived.OneCell
namespace Go.Proofs.YthcafhdokbejkaaDoor
open Go.RowKit Go.Shelf

theorem decode_pos (s : ByteArray) (i : Nat) : 1 ≤ (Utf8.decode s i).2 ∧ (i < s.size → i + (Utf8.decode s i).2 ≤ s.size) := by
  simp only [Utf8.decode]
  repeat' split
  all_goals simp_all
  all_goals omega

set_option maxRecDepth 100000 in
set_option maxHeartbeats 1000000 in
theorem iany_short (s : ByteArray) (w : World) (h8 : s.size ≤ 8) :
    Calls Tryd.prog 39 #[.string s, .string ⟨#[46, 35, 58]⟩] w fun e w' => (∃ r : Int, e = .returned (.int .i64 r) ∧ -1 ≤ r ∧ r < s.size) ∧ Below w.heap.size w w' := by
  have h8z : decide ((8 : Int) < (s.size : Int)) = false := decide_eq_false (by omega)
  go_enter Tryd.func39, Tryd.ntmps39
  go_wp2_with (go_at_call 50; refine (Any.strings_shouldUseASCIISet (ρ := Tryd.lays153_ren) { Tryd.lays153 with } _ _).mono ?_; rintro e w' ⟨rfl, hw⟩; rw [hw, h8z])
  go_loopg [9, 10] s.size (fun g _ _ wx => ∃ i : Nat, i + g = s.size ∧ wx.heap[w.heap.size]? = some (.stringIter s i) ∧ Below w.heap.size w wx)
  case atStart => exact ⟨0, by omega, World.iter_heap .., below_it _ _ _⟩
  case round =>
    obtain ⟨i, hig, hit, hbx⟩ := hrel
    have BX := Lib.hid hbx
    clear hbx
    by_cases hlt : i < s.size
    · have hnx := fun ty => Lib.run_next_any_at (P := Tryd.prog) wr w.heap.size s i ty hit hlt
      have hd := decode_pos s i
      generalize Utf8.decode s i = d at *
      obtain ⟨r, n⟩ := d
      have hB := Lib.hid (Lib.below_iterAt BX.out (Nat.le_refl _) s (i + n))
      have hI := Lib.hid (show (wr.iterAt w.heap.size s (i + n)).heap[w.heap.size]? = some (.stringIter s (i + n)) from Lib.iterAt_heap _ _ _ _ _ hit)
      clear hit
      go_wp2_with (first | (go_at_call 49; refine (irune_any _ _ (by omega)).mono ?_; rintro e w5 ⟨⟨k, rfl⟩, hb5⟩; have B5 := Lib.hid (hB.out.trans (hb5.mono hB.out.size)); have I5 := Lib.hid ((hb5.block w.heap.size (lt_of_block hI.out)).trans hI.out); clear hb5) | fail)
      · go_ret
        exact ⟨⟨i, rfl, by omega, by omega⟩, B5.out⟩
      · go_roundg (s.size - (i + n))
        case measure => have h1 : 1 ≤ n := hd.1; have h2 : i + n ≤ s.size := hd.2 hlt; omega
        case rel => exact ⟨i + n, by have h2 : i + n ≤ s.size := hd.2 hlt; omega, I5.out, B5.out⟩
    · have hnx := fun ty => Lib.run_next_end_at (P := Tryd.prog) wr w.heap.size s i ty hit hlt
      go_wp2
      go_ret
      exact ⟨⟨-1, rfl, by omega, by omega⟩, BX.out⟩

theorem indexAny_lt (chars : List UInt8) : ∀ l : List UInt8, Lib.indexAny l chars < l.length
  | [] => by simp [Lib.indexAny]
  | x :: l => by
    have := indexAny_lt chars l
    have := Lib.indexAny_ge chars l
    simp only [Lib.indexAny, List.length_cons]
    repeat' split
    all_goals omega

theorem info116 : (Tryd.prog.info? (Tryd.lays153_ren.t 116)).map (fun i => (i.zero, i.size)) = some (some (.agg (Array.replicate 256 (.bool false))), 256) := by kernel_rfl

/-- strings.IndexAny of the three marks, at every string: an index or -1. -/
theorem iany_any (s : ByteArray) (w : World) (hs : s.size < 4294967281) :
    Calls Tryd.prog 39 #[.string s, .string ⟨#[46, 35, 58]⟩] w fun e w' => (∃ r : Int, e = .returned (.int .i64 r) ∧ -1 ≤ r ∧ r < s.size) ∧ Below w.heap.size w w' := by
  by_cases h8 : s.size ≤ 8
  · exact iany_short s w h8
  · refine (Any.strings_IndexAny_long Tryd.lays153 (zero_of_info info116).1 (zero_of_info info116).2 s ⟨#[46, 35, 58]⟩ w (by decide) (by omega) hs (by decide) ?_).mono ?_
    · intro j b h
      match j, h with
      | 0, h => simp at h; subst h; decide
      | 1, h => simp at h; subst h; decide
      | 2, h => simp at h; subst h; decide
    · rintro e w' ⟨rfl, rfl⟩
      refine ⟨⟨_, rfl, Lib.indexAny_ge _ _, ?_⟩, ((Below.refl _ _).alloc (Nat.le_refl _) _).alloc (by simp) _⟩
      have := indexAny_lt (⟨#[46, 35, 58]⟩ : ByteArray).data.toList s.data.toList
      rw [Lib.size_eq s]
      exact this

/-- At an ASCII string it is the first mark's index. -/
theorem iany_ascii (s : ByteArray) (w : World) (hs : s.size < 4294967281) (ha : ∀ (j : Nat) b, s.data.toList[j]? = some b → b.toNat < 128) :
    Calls Tryd.prog 39 #[.string s, .string ⟨#[46, 35, 58]⟩] w fun e w' => e = .returned (.int .i64 (Lib.indexAny s.data.toList [46, 35, 58])) ∧ Below w.heap.size w w' :=
  Any.strings_IndexAny_laid Tryd.lays153 info116 s ⟨#[46, 35, 58]⟩ w hs (by decide) ha (by
    intro j b h
    match j, h with
    | 0, h => simp at h; subst h; decide
    | 1, h => simp at h; subst h; decide
    | 2, h => simp at h; subst h; decide)
end Go.Proofs.YthcafhdokbejkaaDoor
