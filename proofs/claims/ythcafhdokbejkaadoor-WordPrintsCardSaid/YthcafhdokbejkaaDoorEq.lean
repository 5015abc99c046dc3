/- Equality of two words, as the model computes it. -/
import Derived.Test.YthcafhdokbejkaaDoorAwake
import Derived.WalkKit
import Derived.WalkSpells
import Derived.WalkLawsBesides
import Derived.ProofKit
import Derived.OpenShut
import Derived.Lib.Hide
import Derived.Laws.StructEq
namespace Go.Proofs.YthcafhdokbejkaaDoor
open Go.ChangeShapes Go.WideShapes Go.ChangeAt Go.RowKit

theorem guardW : Tryd.prog.eqGuardType Tryd.prog.depth 33 = false := by kernel_rfl

theorem equalW (a b c a' b' c' : Int) (w : World) : (Op.equalIn 10000 33 (.agg #[.int .i64 a, .int .u32 b, .int .u32 c]) (.agg #[.int .i64 a', .int .u32 b', .int .u32 c'])).run Tryd.prog w = .ok (a == a' && (b == b' && c == c')) w := by
  have u2 := Tryd.underlying2
  have u22 := Tryd.underlying22
  have a2 := Tryd.isAgg2
  have a22 := Tryd.isAgg22
  have z2 := Tryd.sizeOf2
  have z22 := Tryd.sizeOf22
  have hS : Tryd.prog.underlying 33 = some (.struct (Tryd.prog.fieldsOf 33)) := by kernel_rfl
  have hp : Tryd.prog.stoodInHeld 33 = false := by kernel_rfl
  rw [show (10000 : Nat) = 9999 + 1 from rfl, run_equalIn_agg w 9999 33 _ _ hS hp]
  simp only [Program.fieldsOf, Tryd.underlying33]
  go_simp
  by_cases h1 : a = a' <;> by_cases h2 : b = b' <;> by_cases h3 : c = c' <;> simp [h1, h2, h3]

theorem eqlW (a b c a' b' c' : Int) (w : World) : (binOp .eql 33 (.agg #[.int .i64 a, .int .u32 b, .int .u32 c]) (.agg #[.int .i64 a', .int .u32 b', .int .u32 c'])).run Tryd.prog w = .ok (.bool (a == a' && (b == b' && c == c'))) w := by
  rw [run_eql_struct, equalW]; rfl
theorem neqW (a b c a' b' c' : Int) (w : World) : (binOp .neq 33 (.agg #[.int .i64 a, .int .u32 b, .int .u32 c]) (.agg #[.int .i64 a', .int .u32 b', .int .u32 c'])).run Tryd.prog w = .ok (.bool (!(a == a' && (b == b' && c == c')))) w := by
  rw [run_neq_struct, equalW]; rfl
end Go.Proofs.YthcafhdokbejkaaDoor
