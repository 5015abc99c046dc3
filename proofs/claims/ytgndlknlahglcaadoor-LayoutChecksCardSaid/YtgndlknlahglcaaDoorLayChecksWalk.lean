/- Statement LayoutChecks: the walk through the law for every layout. -/
import Derived.Test.YtgndlknlahglcaaDoorLayRef
import Derived.Deep.RegionHeld3
namespace Go.Proofs.YtgndlknlahglcaaDoor.layoutChecks
open Go.ChangeShapes Go.WideShapes Go.ChangeAt Go.RowKit Go.Maps

def Good (w : World) (e : Ending) (w' : World) : Prop := e = .returned (.bool true) ∧ Below w.heap.size w w'
set_option maxRecDepth 100000 in
set_option maxHeartbeats 1600000 in
theorem walk (T C B : Int) (w : World) (hg : Gl w) : Calls Tryd.prog 3 #[LV T C B] w (Good w) := by
  have A := At.box (T := T) (C := C) (B := B) hg rfl
  have HL := Lib.hid (sizeI_len T C B)
  have hxx := A.x
  have A1 := Lib.hid A
  clear A hg
  have qq : (checkI T C B == checkI T C B) = true := by simp
  have qs : (((allI T C B).length : Int) == ((allI T C B).length : Int)) = true := by simp
  unfold Good
  go_enter Tryd.func3, Tryd.ntmps3
  obtain ⟨n, hn⟩ : ∃ n, w.heap.size = n := ⟨_, rfl⟩
  go_wp2_with fail
  rw [hn] at A1 hxx
  generalize w.alloc (.cells #[.int .i64 T, .int .i64 C, .int .i64 B] 23) = W0 at *
  go_region_held3 (fun wz => wz.cell? ⟨n, 0, none⟩ = some (.int .i64 T) ∧ wz.cell? ⟨n, 1, none⟩ = some (.int .i64 C) ∧ wz.cell? ⟨n, 2, none⟩ = some (.int .i64 B)) (first | exact hxx)
    (first
      | (go_at_call 9; (with_reducible refine (awake_any _ A1.out.g).mono ?_); rintro e W1 ⟨rfl, hb⟩; have A2 := Lib.hid (A1.out.below hb); clear hb; clear A1; have A1 := A2; clear A2; clear hxx; have hxx := A1.out.x)
      | (go_at_call 10; (with_reducible refine (check_any T C B _ A1.out.g).mono ?_); rintro e W1 ⟨rfl, hb⟩; have A2 := Lib.hid (A1.out.below hb); clear hb; clear A1; have A1 := A2; clear A2; clear hxx; have hxx := A1.out.x)
      | (go_at_call 11; (with_reducible refine (rcheck_any T C B _).mono ?_); rintro e W1 ⟨rfl, hb⟩; have A2 := Lib.hid (A1.out.below hb); clear hb; clear A1; have A1 := A2; clear A2; clear hxx; have hxx := A1.out.x)
      | (go_at_call 12; (with_reducible refine (size_any T C B _ A1.out.g).mono ?_); rintro e W1 ⟨rfl, hb⟩; have A2 := Lib.hid (A1.out.below hb); clear hb; clear A1; have A1 := A2; clear A2; clear hxx; have hxx := A1.out.x; rw [HL.out])
      | (go_at_call 13; (with_reducible refine (lall_any T C B _ A1.out.g).mono ?_); rintro e W1 ⟨v, rfl, hps, hb⟩; have A2 := Lib.hid (A1.out.below hb); clear hb; clear A1; have A1 := A2; clear A2; clear hxx; have hxx := A1.out.x; obtain ⟨va, vc, hv, -⟩ := hps; subst hv)
      | (go_at_call 9; (with_reducible refine (awake_any _ (A1.out.below (Below.refl _ _).drew).g).mono ?_); rintro e W1 ⟨rfl, hb⟩; have A2 := Lib.hid ((A1.out.below (Below.refl _ _).drew).below hb); clear hb; clear A1; have A1 := A2; clear A2; clear hxx; have hxx := A1.out.x)
      | (go_at_call 10; (with_reducible refine (check_any T C B _ (A1.out.below (Below.refl _ _).drew).g).mono ?_); rintro e W1 ⟨rfl, hb⟩; have A2 := Lib.hid ((A1.out.below (Below.refl _ _).drew).below hb); clear hb; clear A1; have A1 := A2; clear A2; clear hxx; have hxx := A1.out.x)
      | (go_at_call 11; (with_reducible refine (rcheck_any T C B _).mono ?_); rintro e W1 ⟨rfl, hb⟩; have A2 := Lib.hid ((A1.out.below (Below.refl _ _).drew).below hb); clear hb; clear A1; have A1 := A2; clear A2; clear hxx; have hxx := A1.out.x)
      | (go_at_call 12; (with_reducible refine (size_any T C B _ (A1.out.below (Below.refl _ _).drew).g).mono ?_); rintro e W1 ⟨rfl, hb⟩; have A2 := Lib.hid ((A1.out.below (Below.refl _ _).drew).below hb); clear hb; clear A1; have A1 := A2; clear A2; clear hxx; have hxx := A1.out.x; rw [HL.out])
      | (go_at_call 13; (with_reducible refine (lall_any T C B _ (A1.out.below (Below.refl _ _).drew).g).mono ?_); rintro e W1 ⟨v, rfl, hps, hb⟩; have A2 := Lib.hid ((A1.out.below (Below.refl _ _).drew).below hb); clear hb; clear A1; have A1 := A2; clear A2; clear hxx; have hxx := A1.out.x; obtain ⟨va, vc, hv, -⟩ := hps; subst hv))
  go_wp2_with fail
  go_ret
  exact ⟨rfl, A1.out.b⟩
end Go.Proofs.YtgndlknlahglcaaDoor.layoutChecks
