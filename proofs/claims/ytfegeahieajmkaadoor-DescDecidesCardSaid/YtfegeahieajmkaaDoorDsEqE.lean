/- Entries compared. -/
import Derived.Test.YtfegeahieajmkaaDoorDsEq
namespace Go.Proofs.YtfegeahieajmkaaDoor
open Go.ChangeShapes Go.WideShapes Go.ChangeAt Go.RowKit Go.Maps
theorem guardE : Tryd.prog.eqGuardType Tryd.prog.depth 49 = false := by kernel_rfl
def eqE (a b : En) : Bool := a.1 == b.1 && (eqW a.2.1 b.2.1 && (a.2.2.1 == b.2.2.1 && a.2.2.2 == b.2.2.2))
theorem eqE_dec (a b : En) : eqE a b = decide (a = b) := by
  obtain ⟨a0, a1, a2, a3⟩ := a
  obtain ⟨b0, b1, b2, b3⟩ := b
  unfold eqE
  rw [eqW_dec, Bool.eq_iff_iff]
  simp
theorem equalE (a v n r z : Int) (b : Bool) (a' v' n' r' z' : Int) (b' : Bool) (w : World) : (Op.equalIn 10000 49 (.agg #[.int .i64 a, .int .i64 v, .int .u32 n, .int .u32 r, .int .i64 z, .bool b]) (.agg #[.int .i64 a', .int .i64 v', .int .u32 n', .int .u32 r', .int .i64 z', .bool b'])).run Tryd.prog w = .ok (eqE (a, (v, n, r), z, b) (a', (v', n', r'), z', b')) w := by
  have u3 := Tryd.underlying44
  have a3 := Tryd.isAgg44
  have z3 := Tryd.sizeOf44
  have u2 := Tryd.underlying2
  have a2 := Tryd.isAgg2
  have z2 := Tryd.sizeOf2
  have u4 := Tryd.underlying4
  have a4 := Tryd.isAgg4
  have z4 := Tryd.sizeOf4
  have a5 := Tryd.isAgg47
  have z5 := Tryd.sizeOf47
  have E := fun a b c a' b' c' w => equalWd 9997 a b c a' b' c' w
  have hS : Tryd.prog.underlying 49 = some (.struct (Tryd.prog.fieldsOf 49)) := by kernel_rfl
  have hp : Tryd.prog.stoodInHeld 49 = false := by kernel_rfl
  rw [show (10000 : Nat) = 9999 + 1 from rfl, run_equalIn_agg w 9999 49 _ _ hS hp]
  simp only [Program.fieldsOf, Tryd.underlying49]
  go_simp
  cases b <;> cases b' <;> by_cases h1 : a = a' <;> by_cases h3 : z = z' <;> cases hw : eqW (v, n, r) (v', n', r') <;> simp [eqE, h1, h3, hw]
theorem neqE (a v n r z : Int) (b : Bool) (a' v' n' r' z' : Int) (b' : Bool) (w : World) : (binOp .neq 49 (.agg #[.int .i64 a, .int .i64 v, .int .u32 n, .int .u32 r, .int .i64 z, .bool b]) (.agg #[.int .i64 a', .int .i64 v', .int .u32 n', .int .u32 r', .int .i64 z', .bool b'])).run Tryd.prog w = .ok (.bool (!eqE (a, (v, n, r), z, b) (a', (v', n', r'), z', b'))) w := by
  rw [run_neq_struct, equalE]; rfl
theorem eqlE (a v n r z : Int) (b : Bool) (a' v' n' r' z' : Int) (b' : Bool) (w : World) : (binOp .eql 49 (.agg #[.int .i64 a, .int .i64 v, .int .u32 n, .int .u32 r, .int .i64 z, .bool b]) (.agg #[.int .i64 a', .int .i64 v', .int .u32 n', .int .u32 r', .int .i64 z', .bool b'])).run Tryd.prog w = .ok (.bool (eqE (a, (v, n, r), z, b) (a', (v', n', r'), z', b'))) w := by
  rw [run_eql_struct, equalE]; rfl
end Go.Proofs.YtfegeahieajmkaaDoor
