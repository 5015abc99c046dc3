/- Words to be stored, as lists: 4 cells each. -/
import Derived.Test.YtfegeahieajmkaaDoorDsFirst
namespace Go.Proofs.YtfegeahieajmkaaDoor
open Go.ChangeShapes Go.WideShapes Go.ChangeAt Go.RowKit Go.Maps
def ptE : Enc (Int × Wd) where
  k := 4
  enc p := [.int .u16 p.1, .int .i64 p.2.1, .int .u32 p.2.2.1, .int .u32 p.2.2.2]
  len _ := rfl
  one x u hu := by
    simp only [List.mem_cons, List.not_mem_nil, or_false] at hu
    rcases hu with rfl | rfl | rfl | rfl <;> rfl
  pos := by decide
def OkP (p : Int × Wd) : Prop := (0 ≤ p.1 ∧ p.1 < 65536) ∧ OkW p.2
abbrev PS (w : World) (v : Value) (L : List (Int × Wd)) : Prop := SK ptE w v L
theorem pt_cells {w : World} {b off : Nat} {L : List (Int × Wd)} (h : RdK ptE w b off L) {k : Nat} (hk : k < L.length) : w.cell? ⟨b, off + k * 4, none⟩ = some (.int .u16 (L[k]!).1) ∧ w.cell? ⟨b, off + k * 4 + 1, none⟩ = some (.int .i64 (L[k]!).2.1) ∧ w.cell? ⟨b, off + k * 4 + 2, none⟩ = some (.int .u32 (L[k]!).2.2.1) ∧ w.cell? ⟨b, off + k * 4 + 3, none⟩ = some (.int .u32 (L[k]!).2.2.2) :=
  ⟨h k hk 0 _ rfl, h k hk 1 _ rfl, h k hk 2 _ rfl, h k hk 3 _ rfl⟩
end Go.Proofs.YtfegeahieajmkaaDoor
