/- Equality of two picks as the model computes it; alike and Same of the statements. -/
import Derived.Test.YtpgcnejofnhhfaaDoorBase
import Derived.Laws.StructEq
import Derived.Deep.QuietTactic
import Derived.BigQuiet
namespace Go.Proofs.YtpgcnejofnhhfaaDoor
open Go.ChangeShapes Go.WideShapes Go.ChangeAt Go.RowKit

theorem guardP : Tryd.prog.eqGuardType Tryd.prog.depth 35 = false := by kernel_rfl
theorem guardR : Tryd.prog.eqGuardType Tryd.prog.depth 37 = false := by kernel_rfl
def eqP (a b : Pk) : Bool := a.1 == b.1 && (a.2.1 == b.2.1 && a.2.2 == b.2.2)
theorem eqP_iff (a b : Pk) : eqP a b = true ↔ a = b := by
  obtain ⟨a0, a1, a2⟩ := a
  obtain ⟨b0, b1, b2⟩ := b
  simp [eqP]
theorem equalP (a b c a' b' c' : Int) (w : World) : (Op.equalIn 10000 35 (.agg #[.int .i64 a, .int .i64 b, .int .i64 c]) (.agg #[.int .i64 a', .int .i64 b', .int .i64 c'])).run Tryd.prog w = .ok (eqP (a, b, c) (a', b', c')) w := by
  have u3 := Tryd.underlying3
  have a3 := Tryd.isAgg3
  have z3 := Tryd.sizeOf3
  have hS : Tryd.prog.underlying 35 = some (.struct (Tryd.prog.fieldsOf 35)) := by kernel_rfl
  have hp : Tryd.prog.stoodInHeld 35 = false := by kernel_rfl
  rw [show (10000 : Nat) = 9999 + 1 from rfl, run_equalIn_agg w 9999 35 _ _ hS hp]
  simp only [Program.fieldsOf, Tryd.underlying35]
  go_simp
  by_cases h1 : a = a' <;> by_cases h2 : b = b' <;> by_cases h3 : c = c' <;> simp [eqP, h1, h2, h3]
theorem equalR (a b c a' b' c' : Int) (w : World) : (Op.equalIn 10000 37 (.agg #[.int .i64 a, .int .i64 b, .int .i64 c]) (.agg #[.int .i64 a', .int .i64 b', .int .i64 c'])).run Tryd.prog w = .ok (eqP (a, b, c) (a', b', c')) w := by
  have u3 := Tryd.underlying3
  have a3 := Tryd.isAgg3
  have z3 := Tryd.sizeOf3
  have hS : Tryd.prog.underlying 37 = some (.struct (Tryd.prog.fieldsOf 37)) := by kernel_rfl
  have hp : Tryd.prog.stoodInHeld 37 = false := by kernel_rfl
  rw [show (10000 : Nat) = 9999 + 1 from rfl, run_equalIn_agg w 9999 37 _ _ hS hp]
  simp only [Program.fieldsOf, Tryd.underlying37]
  go_simp
  by_cases h1 : a = a' <;> by_cases h2 : b = b' <;> by_cases h3 : c = c' <;> simp [eqP, h1, h2, h3]
theorem neqP (a b c a' b' c' : Int) (w : World) : (binOp .neq 35 (.agg #[.int .i64 a, .int .i64 b, .int .i64 c]) (.agg #[.int .i64 a', .int .i64 b', .int .i64 c'])).run Tryd.prog w = .ok (.bool (!(eqP (a, b, c) (a', b', c')))) w := by
  rw [run_neq_struct, equalP]; rfl
theorem neqR (a b c a' b' c' : Int) (w : World) : (binOp .neq 37 (.agg #[.int .i64 a, .int .i64 b, .int .i64 c]) (.agg #[.int .i64 a', .int .i64 b', .int .i64 c'])).run Tryd.prog w = .ok (.bool (!(eqP (a, b, c) (a', b', c')))) w := by
  rw [run_neq_struct, equalR]; rfl

theorem below_drewN {B : Nat} {a w : World} (h : Below B a w) (n : Nat) : Below B a (w.drewN n) := ⟨h.os, h.tape, h.output, h.size, h.block⟩
theorem getD_eta (L : List Pk) (k : Nat) : ((L.getD k zPk).1, (L.getD k zPk).2.1, (L.getD k zPk).2.2) = L.getD k zPk := rfl
theorem list_eq {L M : List Pk} (hl : L.length = M.length) (h : ∀ i, i < L.length → L.getD i zPk = M.getD i zPk) : L = M := by
  apply List.ext_getElem hl
  intro i h1 h2
  have := h i h1
  rw [List.getD, List.getD, List.getElem?_eq_getElem h1, List.getElem?_eq_getElem h2] at this
  exact this

set_option maxRecDepth 100000 in
set_option maxHeartbeats 800000 in
theorem alike_any (v u : Value) (L M : List Pk) (w : World) (hl : L.length ≤ 100000) (h : PS w v L) (g : PS w u M) :
    Calls Tryd.prog 18 #[v, u] w fun e w' => e = .returned (.bool (decide (L = M))) ∧ Below w.heap.size w w' := by
  obtain ⟨a, cap, rfl, h⟩ := h
  obtain ⟨a2, cap2, rfl, g⟩ := g
  have H := Lib.hid h
  have G := Lib.hid g
  clear h g
  have qN := neqP
  have gP := guardP
  by_cases hne : L.length = M.length
  · obtain ⟨n, hn⟩ : ∃ n, L.length = n := ⟨_, rfl⟩
    have hn2 : M.length = n := by omega
    rw [hn, hn2]
    rw [hn] at hl
    clear hne
    go_enter Tryd.func18, Tryd.ntmps18
    go_wp2
    go_loopw [13] (fun iv wr => ∃ k : Nat, k ≤ n ∧ iv = .int .i64 k ∧ (∀ i, i < k → L.getD i zPk = M.getD i zPk) ∧ Below w.heap.size w wr) (fun iv _ => n - (intOf iv).toNat)
    case atStart => exact ⟨0, by omega, rfl, by omega, Below.refl _ _⟩
    case round =>
      obtain ⟨k, hk, rfl, hs, hb⟩ := hrel
      have BB := Lib.hid hb
      have HS := Lib.hid hs
      clear hb hs
      by_cases hlt : k < n
      · rcases H.out with h | ⟨b, off, rfl, hbl, hc⟩
        · subst h; simp at hn; omega
        rcases G.out with h | ⟨b', off', rfl, hbl', hc'⟩
        · subst h; simp at hn2; omega
        obtain ⟨c0, c1, c2⟩ := hc k (by omega)
        obtain ⟨d0, d1, d2⟩ := hc' k (by omega)
        rw [← BB.out.cell hbl] at c0 c1 c2
        rw [← BB.out.cell hbl'] at d0 d1 d2
        have HE := Lib.hid (eqP_iff (L.getD k zPk) (M.getD k zPk))
        rw [← getD_eta L k, ← getD_eta M k] at HE
        have HX := Lib.hid (getD_eta L k)
        have HY := Lib.hid (getD_eta M k)
        clear hc hc'
        have HL : Hid (L.getD k zPk = M.getD k zPk ↔ eqP ((L.getD k zPk).1, (L.getD k zPk).2.1, (L.getD k zPk).2.2) ((M.getD k zPk).1, (M.getD k zPk).2.1, (M.getD k zPk).2.2) = true) := Lib.hid (eqP_iff _ _).symm
        clear HE HX HY
        generalize (L.getD k zPk).1 = x0 at *
        generalize (L.getD k zPk).2.1 = x1 at *
        generalize (L.getD k zPk).2.2 = x2 at *
        generalize (M.getD k zPk).1 = y0 at *
        generalize (M.getD k zPk).2.1 = y1 at *
        generalize (M.getD k zPk).2.2 = y2 at *
        cases he : eqP (x0, x1, x2) (y0, y1, y2) with
        | true =>
          go_wp2
          go_quiet (fail)
          go_wp2
          go_roundw
          case rel => exact ⟨k + 1, by omega, by go_num, fun i hi => (Nat.lt_or_ge i k).elim (HS.out i) (fun h => (show i = k by omega) ▸ HL.out.2 he), below_drewN BB.out _⟩
          case measure => simp [intOf]; omega
        | false =>
          go_wp2
          go_quiet (fail)
          go_wp2
          go_ret
          refine ⟨?_, below_drewN BB.out _⟩
          rw [show decide (L = M) = false from decide_eq_false (fun h => by rw [h] at HL; have := HL.out.1 rfl; rw [he] at this; cases this)]; rfl
      · go_wp2
        go_ret
        refine ⟨?_, BB.out⟩
        rw [show decide (L = M) = true from decide_eq_true (list_eq (by omega) (fun i hi => HS.out i (by omega)))]; rfl
  · rw [show decide (L = M) = false from decide_eq_false (fun h => hne (by rw [h]))]
    obtain ⟨n, hn⟩ : ∃ n, L.length = n := ⟨_, rfl⟩
    obtain ⟨m, hn2⟩ : ∃ n, M.length = n := ⟨_, rfl⟩
    rw [hn, hn2] at hne ⊢
    have hb : ((n : Int) != m) = true := by rw [bne_iff_ne]; omega
    clear H G
    go_enter Tryd.func18, Tryd.ntmps18
    go_wp2
    go_ret
    exact ⟨rfl, Below.refl _ _⟩
set_option maxRecDepth 100000 in
set_option maxHeartbeats 800000 in
theorem same_any (v u : Value) (L M : List Pk) (w : World) (hl : L.length ≤ 100000) (h : PS w v L) (g : PS w u M) :
    Calls Tryd.prog 14 #[v, u] w fun e w' => e = .returned (.bool (decide (L = M))) ∧ Below w.heap.size w w' := by
  obtain ⟨a, cap, rfl, h⟩ := h
  obtain ⟨a2, cap2, rfl, g⟩ := g
  have H := Lib.hid h
  have G := Lib.hid g
  clear h g
  have qN := neqR
  have gP := guardR
  by_cases hne : L.length = M.length
  · obtain ⟨n, hn⟩ : ∃ n, L.length = n := ⟨_, rfl⟩
    have hn2 : M.length = n := by omega
    rw [hn, hn2]
    rw [hn] at hl
    clear hne
    go_enter Tryd.func14, Tryd.ntmps14
    go_wp2
    go_loopw [13] (fun iv wr => ∃ k : Nat, k ≤ n ∧ iv = .int .i64 k ∧ (∀ i, i < k → L.getD i zPk = M.getD i zPk) ∧ Below w.heap.size w wr) (fun iv _ => n - (intOf iv).toNat)
    case atStart => exact ⟨0, by omega, rfl, by omega, Below.refl _ _⟩
    case round =>
      obtain ⟨k, hk, rfl, hs, hb⟩ := hrel
      have BB := Lib.hid hb
      have HS := Lib.hid hs
      clear hb hs
      by_cases hlt : k < n
      · rcases H.out with h | ⟨b, off, rfl, hbl, hc⟩
        · subst h; simp at hn; omega
        rcases G.out with h | ⟨b', off', rfl, hbl', hc'⟩
        · subst h; simp at hn2; omega
        obtain ⟨c0, c1, c2⟩ := hc k (by omega)
        obtain ⟨d0, d1, d2⟩ := hc' k (by omega)
        rw [← BB.out.cell hbl] at c0 c1 c2
        rw [← BB.out.cell hbl'] at d0 d1 d2
        have HE := Lib.hid (eqP_iff (L.getD k zPk) (M.getD k zPk))
        rw [← getD_eta L k, ← getD_eta M k] at HE
        have HX := Lib.hid (getD_eta L k)
        have HY := Lib.hid (getD_eta M k)
        clear hc hc'
        have HL : Hid (L.getD k zPk = M.getD k zPk ↔ eqP ((L.getD k zPk).1, (L.getD k zPk).2.1, (L.getD k zPk).2.2) ((M.getD k zPk).1, (M.getD k zPk).2.1, (M.getD k zPk).2.2) = true) := Lib.hid (eqP_iff _ _).symm
        clear HE HX HY
        generalize (L.getD k zPk).1 = x0 at *
        generalize (L.getD k zPk).2.1 = x1 at *
        generalize (L.getD k zPk).2.2 = x2 at *
        generalize (M.getD k zPk).1 = y0 at *
        generalize (M.getD k zPk).2.1 = y1 at *
        generalize (M.getD k zPk).2.2 = y2 at *
        cases he : eqP (x0, x1, x2) (y0, y1, y2) with
        | true =>
          go_wp2
          go_quiet (fail)
          go_wp2
          go_roundw
          case rel => exact ⟨k + 1, by omega, by go_num, fun i hi => (Nat.lt_or_ge i k).elim (HS.out i) (fun h => (show i = k by omega) ▸ HL.out.2 he), below_drewN BB.out _⟩
          case measure => simp [intOf]; omega
        | false =>
          go_wp2
          go_quiet (fail)
          go_wp2
          go_ret
          refine ⟨?_, below_drewN BB.out _⟩
          rw [show decide (L = M) = false from decide_eq_false (fun h => by rw [h] at HL; have := HL.out.1 rfl; rw [he] at this; cases this)]; rfl
      · go_wp2
        go_ret
        refine ⟨?_, BB.out⟩
        rw [show decide (L = M) = true from decide_eq_true (list_eq (by omega) (fun i hi => HS.out i (by omega)))]; rfl
  · rw [show decide (L = M) = false from decide_eq_false (fun h => hne (by rw [h]))]
    obtain ⟨n, hn⟩ : ∃ n, L.length = n := ⟨_, rfl⟩
    obtain ⟨m, hn2⟩ : ∃ n, M.length = n := ⟨_, rfl⟩
    rw [hn, hn2] at hne ⊢
    have hb : ((n : Int) != m) = true := by rw [bne_iff_ne]; omega
    clear H G
    go_enter Tryd.func14, Tryd.ntmps14
    go_wp2
    go_ret
    exact ⟨rfl, Below.refl _ _⟩
end Go.Proofs.YtpgcnejofnhhfaaDoor
