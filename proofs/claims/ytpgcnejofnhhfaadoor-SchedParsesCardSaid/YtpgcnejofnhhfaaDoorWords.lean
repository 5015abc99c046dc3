/- The words of a line: what strings.Split answers at a space. -/
import Derived.Test.YtpgcnejofnhhfaaDoorValue
import Derived.Lib.SplitLaws
namespace Go.Proofs.YtpgcnejofnhhfaaDoor
open Go.ChangeShapes Go.WideShapes Go.ChangeAt Go.RowKit

def spB : ByteArray := ⟨#[32]⟩
/-- The words of a line, between its spaces. -/
def wordsB (s : ByteArray) : List ByteArray := Lib.splitB spB 0 (Lib.countB s spB) s
theorem wordsB_len (s : ByteArray) : (wordsB s).length = Lib.countB s spB + 1 := Lib.splitB_all spB (by decide) 0 _ s rfl
theorem splitB_small (sep : ByteArray) : ∀ (k : Nat) (s : ByteArray) (n : Nat), s.size ≤ n → ∀ x ∈ Lib.splitB sep 0 k s, x.size ≤ n
  | 0, s, n, h, x, hx => by rw [Lib.splitB_zero] at hx; simp at hx; subst hx; exact h
  | k + 1, s, n, h, x, hx => by
    unfold Lib.splitB at hx
    split at hx
    · simp at hx; subst hx; exact h
    · rcases List.mem_cons.1 hx with rfl | hx
      · simp; omega
      · exact splitB_small sep k _ n (by simp; omega) x hx
theorem wordsB_small (s : ByteArray) (n : Nat) (h : s.size ≤ n) : ∀ x ∈ wordsB s, x.size ≤ n := splitB_small spB _ s n h
theorem wordsB_le (s : ByteArray) : (wordsB s).length ≤ s.size + 1 := by
  rw [wordsB_len]
  have := Lib.countB_le spB (by decide) s.size s (Nat.le_refl _)
  omega
/-- What Split answers: a new block that holds the words. -/
def Words (w : World) (s : ByteArray) (e : Ending) (w' : World) : Prop :=
  e = .returned (.slice (some ⟨w.heap.size, 0, none⟩) (wordsB s).length (wordsB s).length) ∧ w.heap.size < w'.heap.size ∧ (∀ i, i < (wordsB s).length → w'.cell? ⟨w.heap.size, i, none⟩ = some (.string ((wordsB s).getD i eB))) ∧ Below w.heap.size w w'
theorem split_any (s : ByteArray) (w : World) (hs : s.size ≤ 100000) (hg : Gl w) : Calls Tryd.prog 36 #[.string s, .string ⟨#[32]⟩] w (Words w s) := by
  obtain ⟨m, hm⟩ := hg.ml
  refine (Any.strings_Split { Tryd.laysM146 with } Tryd.laysM146.i9 s ⟨#[32]⟩ m w (by omega) hm (by decide)).mono ?_
  rintro e w' ⟨rfl, rfl⟩
  refine ⟨by rw [wordsB_len]; rfl, by simp, fun i hi => ?_, below1 _ _⟩
  have hw : (⟨#[32]⟩ : ByteArray) = spB := rfl
  rw [hw]
  have : (Lib.splitB spB 0 (Lib.countB s spB) s) = wordsB s := rfl
  rw [this]
  generalize wordsB s = L at *
  simp only [World.cell?]
  rw [heap_alloc_new]
  simp [hi, List.getD]
end Go.Proofs.YtpgcnejofnhhfaaDoor
