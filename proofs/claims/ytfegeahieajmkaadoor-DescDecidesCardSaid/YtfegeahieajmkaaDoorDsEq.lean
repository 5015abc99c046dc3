/- Words and threes of words compared. -/
import Derived.Test.YtfegeahieajmkaaDoorDsPlain
namespace Go.Proofs.YtfegeahieajmkaaDoor
open Go.ChangeShapes Go.WideShapes Go.ChangeAt Go.RowKit Go.Maps
/-- Three words as one value. -/
def w3V (a b c : Wd) : Value := .agg #[.int .i64 a.1, .int .u32 a.2.1, .int .u32 a.2.2, .int .i64 b.1, .int .u32 b.2.1, .int .u32 b.2.2, .int .i64 c.1, .int .u32 c.2.1, .int .u32 c.2.2]
theorem guardW : Tryd.prog.eqGuardType Tryd.prog.depth 47 = false := by kernel_rfl
theorem guard3 : Tryd.prog.eqGuardType Tryd.prog.depth 66 = false := by kernel_rfl
def eqW (a b : Wd) : Bool := a.1 == b.1 && (a.2.1 == b.2.1 && a.2.2 == b.2.2)
theorem eqW_iff (a b : Wd) : eqW a b = true ↔ a = b := by
  obtain ⟨a0, a1, a2⟩ := a
  obtain ⟨b0, b1, b2⟩ := b
  simp [eqW]
theorem eqW_dec (a b : Wd) : eqW a b = decide (a = b) := by
  rw [Bool.eq_iff_iff, eqW_iff, decide_eq_true_iff]
theorem equalWd (d : Nat) (a b c a' b' c' : Int) (w : World) : (Op.equalIn (d + 1 + 1) 47 (.agg #[.int .i64 a, .int .u32 b, .int .u32 c]) (.agg #[.int .i64 a', .int .u32 b', .int .u32 c'])).run Tryd.prog w = .ok (eqW (a, b, c) (a', b', c')) w := by
  have u3 := Tryd.underlying45
  have a3 := Tryd.isAgg45
  have z3 := Tryd.sizeOf45
  have u2 := Tryd.underlying2
  have a2 := Tryd.isAgg2
  have z2 := Tryd.sizeOf2
  have hS : Tryd.prog.underlying 47 = some (.struct (Tryd.prog.fieldsOf 47)) := by kernel_rfl
  have hp : Tryd.prog.stoodInHeld 47 = false := by kernel_rfl
  rw [run_equalIn_agg w (d + 1) 47 _ _ hS hp]
  simp only [Program.fieldsOf, Tryd.underlying47]
  go_simp
  by_cases h1 : a = a' <;> by_cases h2 : b = b' <;> by_cases h3 : c = c' <;> simp [eqW, h1, h2, h3]
theorem equalW (a b c a' b' c' : Int) (w : World) : (Op.equalIn 10000 47 (.agg #[.int .i64 a, .int .u32 b, .int .u32 c]) (.agg #[.int .i64 a', .int .u32 b', .int .u32 c'])).run Tryd.prog w = .ok (eqW (a, b, c) (a', b', c')) w := equalWd 9998 a b c a' b' c' w
theorem neqW (a b c a' b' c' : Int) (w : World) : (binOp .neq 47 (.agg #[.int .i64 a, .int .u32 b, .int .u32 c]) (.agg #[.int .i64 a', .int .u32 b', .int .u32 c'])).run Tryd.prog w = .ok (.bool (!eqW (a, b, c) (a', b', c'))) w := by
  rw [run_neq_struct, equalW]; rfl
theorem eqlW (a b c a' b' c' : Int) (w : World) : (binOp .eql 47 (.agg #[.int .i64 a, .int .u32 b, .int .u32 c]) (.agg #[.int .i64 a', .int .u32 b', .int .u32 c'])).run Tryd.prog w = .ok (.bool (eqW (a, b, c) (a', b', c'))) w := by
  rw [run_eql_struct, equalW]; rfl
def eq3 (a b c a' b' c' : Wd) : Bool := eqW a a' && (eqW b b' && eqW c c')
theorem equal3 (a b c a' b' c' : Wd) (w : World) : (Op.equalIn 10000 66 (w3V a b c) (w3V a' b' c')).run Tryd.prog w = .ok (eq3 a b c a' b' c') w := by
  obtain ⟨i, hi⟩ := info_of_underlying Tryd.underlying47
  have e := run_equalIn_array (P := Tryd.prog) w 9999 (t := 66) (e := 47) (n := 3) #[.int .i64 a.1, .int .u32 a.2.1, .int .u32 a.2.2, .int .i64 b.1, .int .u32 b.2.1, .int .u32 b.2.2, .int .i64 c.1, .int .u32 c.2.1, .int .u32 c.2.2] #[.int .i64 a'.1, .int .u32 a'.2.1, .int .u32 a'.2.2, .int .i64 b'.1, .int .u32 b'.2.1, .int .u32 b'.2.2, .int .i64 c'.1, .int .u32 c'.2.1, .int .u32 c'.2.2] Tryd.underlying66 hi
  unfold w3V
  rw [show (10000 : Nat) = 9999 + 1 from rfl, e, (by kernel_rfl : Tryd.prog.cellsOf 47 = 3)]
  have E := fun a b c a' b' c' w => equalWd 9997 a b c a' b' c' w
  have g := Tryd.isAgg47
  have z := Tryd.sizeOf47
  simp only [show (List.range 3) = [0, 1, 2] from rfl, Op.eqItems]
  go_simp
  show (if eqW a a' = false then Result.ok false w else if eqW b b' = false then Result.ok false w else if eqW c c' = false then Result.ok false w else Result.ok true w) = _
  unfold eq3
  cases eqW a a' <;> cases eqW b b' <;> cases eqW c c' <;> rfl
theorem neq3 (a0 a1 a2 b0 b1 b2 c0 c1 c2 d0 d1 d2 e0 e1 e2 f0 f1 f2 : Int) (w : World) : (binOp .neq 66 (.agg #[.int .i64 a0, .int .u32 a1, .int .u32 a2, .int .i64 b0, .int .u32 b1, .int .u32 b2, .int .i64 c0, .int .u32 c1, .int .u32 c2]) (.agg #[.int .i64 d0, .int .u32 d1, .int .u32 d2, .int .i64 e0, .int .u32 e1, .int .u32 e2, .int .i64 f0, .int .u32 f1, .int .u32 f2])).run Tryd.prog w = .ok (.bool (!eq3 (a0, a1, a2) (b0, b1, b2) (c0, c1, c2) (d0, d1, d2) (e0, e1, e2) (f0, f1, f2))) w := by
  have := equal3 (a0, a1, a2) (b0, b1, b2) (c0, c1, c2) (d0, d1, d2) (e0, e1, e2) (f0, f1, f2) w
  unfold w3V at this
  rw [run_neq_struct, this]; rfl
theorem eql3 (a0 a1 a2 b0 b1 b2 c0 c1 c2 d0 d1 d2 e0 e1 e2 f0 f1 f2 : Int) (w : World) : (binOp .eql 66 (.agg #[.int .i64 a0, .int .u32 a1, .int .u32 a2, .int .i64 b0, .int .u32 b1, .int .u32 b2, .int .i64 c0, .int .u32 c1, .int .u32 c2]) (.agg #[.int .i64 d0, .int .u32 d1, .int .u32 d2, .int .i64 e0, .int .u32 e1, .int .u32 e2, .int .i64 f0, .int .u32 f1, .int .u32 f2])).run Tryd.prog w = .ok (.bool (eq3 (a0, a1, a2) (b0, b1, b2) (c0, c1, c2) (d0, d1, d2) (e0, e1, e2) (f0, f1, f2))) w := by
  have := equal3 (a0, a1, a2) (b0, b1, b2) (c0, c1, c2) (d0, d1, d2) (e0, e1, e2) (f0, f1, f2) w
  unfold w3V at this
  rw [run_eql_struct, this]; rfl
theorem eq3_dec (a b c a' b' c' : Wd) : eq3 a b c a' b' c' = (decide (a = a') && (decide (b = b') && decide (c = c'))) := by
  unfold eq3; rw [eqW_dec, eqW_dec, eqW_dec]
end Go.Proofs.YtfegeahieajmkaaDoor
