/- Entries compared; two lists compared by the law. -/
import Derived.Test.YtjphhfgomlchoaaDoorEnMerge
import Derived.Deep.QuietTactic
import Derived.BigQuiet
namespace Go.Proofs.YtjphhfgomlchoaaDoor
open Go.ChangeShapes Go.WideShapes Go.ChangeAt Go.RowKit Go.Maps
theorem eqW_dec (a b : Wd) : eqW a b = decide (a = b) := by
  rw [Bool.eq_iff_iff, eqW_iff, decide_eq_true_iff]
theorem equalWd (d : Nat) (a b c a' b' c' : Int) (w : World) : (Op.equalIn (d + 1 + 1) 39 (.agg #[.int .i64 a, .int .u32 b, .int .u32 c]) (.agg #[.int .i64 a', .int .u32 b', .int .u32 c'])).run Tryd.prog w = .ok (eqW (a, b, c) (a', b', c')) w := by
  have u3 := Tryd.underlying37
  have a3 := Tryd.isAgg37
  have z3 := Tryd.sizeOf37
  have u2 := Tryd.underlying2
  have a2 := Tryd.isAgg2
  have z2 := Tryd.sizeOf2
  have hS : Tryd.prog.underlying 39 = some (.struct (Tryd.prog.fieldsOf 39)) := by kernel_rfl
  have hp : Tryd.prog.stoodInHeld 39 = false := by kernel_rfl
  rw [run_equalIn_agg w (d + 1) 39 _ _ hS hp]
  simp only [Program.fieldsOf, Tryd.underlying39]
  go_simp
  by_cases h1 : a = a' <;> by_cases h2 : b = b' <;> by_cases h3 : c = c' <;> simp [eqW, h1, h2, h3]
theorem guardE : Tryd.prog.eqGuardType Tryd.prog.depth 48 = false := by kernel_rfl
def eqE (a b : En) : Bool := a.1 == b.1 && (eqW a.2.1 b.2.1 && (a.2.2.1 == b.2.2.1 && a.2.2.2 == b.2.2.2))
theorem eqE_dec (a b : En) : eqE a b = decide (a = b) := by
  obtain ⟨a0, a1, a2, a3⟩ := a
  obtain ⟨b0, b1, b2, b3⟩ := b
  unfold eqE
  rw [eqW_dec, Bool.eq_iff_iff]
  simp
theorem equalE (a v n r z : Int) (b : Bool) (a' v' n' r' z' : Int) (b' : Bool) (w : World) : (Op.equalIn 10000 48 (.agg #[.int .i64 a, .int .i64 v, .int .u32 n, .int .u32 r, .int .i64 z, .bool b]) (.agg #[.int .i64 a', .int .i64 v', .int .u32 n', .int .u32 r', .int .i64 z', .bool b'])).run Tryd.prog w = .ok (eqE (a, (v, n, r), z, b) (a', (v', n', r'), z', b')) w := by
  have u3 := Tryd.underlying46
  have a3 := Tryd.isAgg46
  have z3 := Tryd.sizeOf46
  have u2 := Tryd.underlying2
  have a2 := Tryd.isAgg2
  have z2 := Tryd.sizeOf2
  have u4 := Tryd.underlying4
  have a4 := Tryd.isAgg4
  have z4 := Tryd.sizeOf4
  have a5 := Tryd.isAgg39
  have z5 := Tryd.sizeOf39
  have E := fun a b c a' b' c' w => equalWd 9997 a b c a' b' c' w
  have hS : Tryd.prog.underlying 48 = some (.struct (Tryd.prog.fieldsOf 48)) := by kernel_rfl
  have hp : Tryd.prog.stoodInHeld 48 = false := by kernel_rfl
  rw [show (10000 : Nat) = 9999 + 1 from rfl, run_equalIn_agg w 9999 48 _ _ hS hp]
  simp only [Program.fieldsOf, Tryd.underlying48]
  go_simp
  cases b <;> cases b' <;> by_cases h1 : a = a' <;> by_cases h3 : z = z' <;> cases hw : eqW (v, n, r) (v', n', r') <;> simp [eqE, h1, h3, hw]
theorem neqE (a v n r z : Int) (b : Bool) (a' v' n' r' z' : Int) (b' : Bool) (w : World) : (binOp .neq 48 (.agg #[.int .i64 a, .int .i64 v, .int .u32 n, .int .u32 r, .int .i64 z, .bool b]) (.agg #[.int .i64 a', .int .i64 v', .int .u32 n', .int .u32 r', .int .i64 z', .bool b'])).run Tryd.prog w = .ok (.bool (!eqE (a, (v, n, r), z, b) (a', (v', n', r'), z', b'))) w := by
  rw [run_neq_struct, equalE]; rfl
theorem eqlE (a v n r z : Int) (b : Bool) (a' v' n' r' z' : Int) (b' : Bool) (w : World) : (binOp .eql 48 (.agg #[.int .i64 a, .int .i64 v, .int .u32 n, .int .u32 r, .int .i64 z, .bool b]) (.agg #[.int .i64 a', .int .i64 v', .int .u32 n', .int .u32 r', .int .i64 z', .bool b'])).run Tryd.prog w = .ok (.bool (eqE (a, (v, n, r), z, b) (a', (v', n', r'), z', b'))) w := by
  rw [run_eql_struct, equalE]; rfl
set_option maxRecDepth 100000 in
set_option maxHeartbeats 3200000 in
theorem alike_any (v u : Value) (L M : List En) (w : World) (hv : ES w v L) (hu : ES w u M) (hl : L.length ≤ 5000) : Calls Tryd.prog 14 #[v, u] w fun e w' => e = .returned (.bool (decide (L = M))) ∧ Below w.heap.size w w' := by
  have HV := Lib.hid hv
  have HU := Lib.hid hu
  obtain ⟨a1, cp, rfl, hcap⟩ := hv.form
  obtain ⟨a2, cu, rfl, hcau⟩ := hu.form
  clear hv hu
  obtain ⟨n, hn⟩ : ∃ n, L.length = n := ⟨_, rfl⟩
  obtain ⟨m, hm⟩ : ∃ n, M.length = n := ⟨_, rfl⟩
  rw [hn] at HV hl hcap ⊢
  rw [hm] at HU hcau ⊢
  have HN := Lib.hid hn
  have HM := Lib.hid hm
  clear hn hm
  obtain ⟨r, hr⟩ : ∃ r, decide (L = M) = r := ⟨_, rfl⟩
  rw [hr]
  have HR := Lib.hid hr
  clear hr
  by_cases hne : n = m
  case neg =>
    have hnn : ((n : Int) != m) = true := by rw [bne_iff_ne]; omega
    have HX := Lib.hid hne
    clear hne
    go_enter Tryd.func14, Tryd.ntmps14
    go_wp2_with fail
    go_ret
    refine ⟨?_, Below.refl _ _⟩
    have e : r = false := HR.out.symm.trans (decide_eq_false (by rintro rfl; exact HX.out (HN.out.symm.trans HM.out)))
    rw [e]; rfl
  subst hne
  have hnn : ((n : Int) != n) = false := by simp
  have qN := neqE
  have gP := guardE
  go_enter Tryd.func14, Tryd.ntmps14
  go_wp2_with fail
  go_loopw [13] (fun iv wr => ∃ k : Nat, k ≤ n ∧ iv = .int .i64 k ∧ (∀ i, i < k → L[i]! = M[i]!) ∧ Below w.heap.size w wr) (fun iv _ => n - (intOf iv).toNat)
  case atStart => exact ⟨0, by omega, rfl, fun i hi => by omega, Below.refl _ _⟩
  case round =>
    obtain ⟨k, hk, rfl, hs, hb⟩ := hrel
    have BB := Lib.hid hb
    have HS := Lib.hid hs
    clear hb hs
    by_cases hlt : k < n
    · obtain ⟨b, off, rfl, hbl, hln, hc⟩ := HV.out.addr hlt
      obtain ⟨c0, c1, c2, c3, c4, c5⟩ := en_cells hc (by rw [hln]; exact hlt)
      obtain ⟨b2, off2, rfl, hbl2, hln2, hc2⟩ := HU.out.addr hlt
      obtain ⟨d0, d1, d2, d3, d4, d5⟩ := en_cells hc2 (by rw [hln2]; exact hlt)
      rw [← BB.out.cell (p := ⟨b, _, none⟩) hbl] at c0 c1 c2 c3 c4 c5
      rw [← BB.out.cell (p := ⟨b2, _, none⟩) hbl2] at d0 d1 d2 d3 d4 d5
      clear hc hc2 hln hln2
      have HE := Lib.hid (eqE_dec (L[k]!) (M[k]!))
      obtain ⟨y, hy⟩ : ∃ y, L[k]! = y := ⟨_, rfl⟩
      obtain ⟨z, hz⟩ : ∃ y, M[k]! = y := ⟨_, rfl⟩
      rw [hy] at c0 c1 c2 c3 c4 c5 HE
      rw [hz] at d0 d1 d2 d3 d4 d5 HE
      have HY := Lib.hid hy
      have HZ := Lib.hid hz
      clear hy hz
      obtain ⟨y0, ⟨y1, y2, y3⟩, y4, y5⟩ := y
      obtain ⟨z0, ⟨z1, z2, z3⟩, z4, z5⟩ := z
      simp only at c0 c1 c2 c3 c4 c5 d0 d1 d2 d3 d4 d5
      cases he : eqE (y0, (y1, y2, y3), y4, y5) (z0, (z1, z2, z3), z4, z5) with
      | true =>
        rw [he] at HE
        go_wp2_with fail
        go_quiet (fail)
        go_wp2
        go_roundw
        case rel =>
          refine ⟨k + 1, by omega, by go_num, fun i hi => ?_, below_drewN BB.out _⟩
          by_cases e : i = k
          · subst e; rw [HY.out, HZ.out]; exact of_decide_eq_true HE.out.symm
          · exact HS.out i (by omega)
        case measure => simp [intOf]; omega
      | false =>
        rw [he] at HE
        go_wp2_with fail
        go_quiet (fail)
        go_wp2
        go_ret
        refine ⟨?_, below_drewN BB.out _⟩
        have e : r = false := HR.out.symm.trans (decide_eq_false (by rintro rfl; exact absurd (HY.out.symm.trans HZ.out) (of_decide_eq_false HE.out.symm)))
        rw [e]; rfl
    · obtain rfl : k = n := by omega
      go_wp2
      go_ret
      refine ⟨?_, BB.out⟩
      have e : r = true := HR.out.symm.trans (decide_eq_true (by
        apply List.ext_getElem (by rw [HN.out, HM.out])
        intro i h1 h2
        have := HS.out i (by rw [HN.out] at h1; exact h1)
        rw [getElem!_pos L i h1, getElem!_pos M i h2] at this
        exact this))
      rw [e]; rfl
end Go.Proofs.YtjphhfgomlchoaaDoor
