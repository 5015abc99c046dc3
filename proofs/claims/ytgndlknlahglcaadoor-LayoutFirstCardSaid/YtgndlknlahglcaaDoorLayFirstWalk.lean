/- Statement LayoutFirst: the walk through the law for every layout. -/
import Derived.Test.YtgndlknlahglcaaDoorLayLaw
import Derived.Test.YtgndlknlahglcaaDoorLayFirst
namespace Go.Proofs.YtgndlknlahglcaaDoor.layoutFirst
open Go.ChangeShapes Go.WideShapes Go.ChangeAt Go.RowKit Go.Maps

def Good (w : World) (e : Ending) (w' : World) : Prop := e = .returned (.bool true) ∧ Below w.heap.size w w'
/-- The initial value that the reference's use asks for. -/
def wantK (p : Pk) : Int := if p.1 = 2 then 1 else if (p.1 = 7 ∨ p.1 = 9) ∧ p.2.2 = 0 then 2 else 0
theorem fv_kind (T C B m : Nat) (hm : m < startL T C B 7) : fv T C B T B m = wantK (kindAt T C B m) := by
  have hs := starts T C B
  have key : ∀ p, kindAt T C B m = p → fv T C B T B m = wantK p := by
    intro p hp
    rcases kind_inv T C B m hm p hp with ⟨e, g⟩ | ⟨e, g⟩ | ⟨t, ht, e, g⟩ | ⟨t, ht, e, g⟩ | ⟨t, i, ht, hi, e, g⟩ | ⟨i, hi, e, g⟩ | ⟨t, i, ht, hi, e, g⟩ | ⟨e, g, hB⟩ | ⟨e, g, hB⟩ | ⟨u, i, hu, hi, e, g⟩ | e
    · subst e; rw [show wantK (1, 0, 0) = 0 from rfl]; unfold fv; rw [if_neg (by omega), if_neg (by omega), if_neg (by omega)]
    · subst e; rw [show wantK (2, 0, 0) = 1 from rfl]; unfold fv; rw [if_pos g]
    · subst e; rw [show wantK (3, _, 0) = 0 from rfl]; unfold fv; rw [if_neg (by omega), if_neg (by omega), if_neg (by omega)]
    · subst e; rw [show wantK (4, _, 0) = 0 from rfl]; unfold fv; rw [if_neg (by omega), if_neg (by omega), if_neg (by omega)]
    · subst e; rw [show wantK (5, _, _) = 0 from rfl]; unfold fv; rw [if_neg (by omega), if_neg (by omega), if_neg (by omega)]
    · subst e; rw [show wantK (6, _, 0) = 0 from rfl]; unfold fv; rw [if_neg (by omega), if_neg (by omega), if_neg (by omega)]
    · subst e
      by_cases h0 : i = 0
      · subst h0; rw [show wantK (7, _, _) = 2 from rfl]; unfold fv; rw [if_neg (by omega), if_pos (by omega)]
      · rw [show wantK (7, ((t + 1 : Nat) : Int), (i : Int)) = 0 by unfold wantK; simp [h0]]; unfold fv; rw [if_neg (by omega), if_neg (by omega), if_neg (by omega)]
    · subst e; rw [show wantK (8, 0, 0) = 0 from rfl]; unfold fv; rw [if_neg (by omega), if_neg (by omega), if_neg (by omega)]
    · subst e; rw [show wantK (8, 1, 0) = 0 from rfl]; unfold fv; rw [if_neg (by omega), if_neg (by omega), if_neg (by omega)]
    · subst e
      by_cases h0 : i = 0
      · subst h0; rw [show wantK (9, _, _) = 2 from rfl]; unfold fv; rw [if_neg (by omega), if_neg (by omega), if_pos (by omega)]
      · rw [show wantK (9, (u : Int), (i : Int)) = 0 by unfold wantK; simp [h0]]; unfold fv; rw [if_neg (by omega), if_neg (by omega), if_neg (by omega)]
    · subst e
      rw [show wantK zPk = 0 from rfl]
      unfold fv
      by_cases h1 : m = 1
      · subst h1; simp [kindAt, zPk] at hp
      rw [if_neg h1]
      by_cases h4 : startL T C B 4 ≤ m ∧ m < startL T C B 4 + 104 * T
      · exfalso
        have := kSlot T C B ((m - startL T C B 4) / 104) ((m - startL T C B 4) % 104) (by omega) (by omega)
        rw [show startL T C B 4 + 104 * ((m - startL T C B 4) / 104) + (m - startL T C B 4) % 104 = m by omega, hp] at this
        simp [zPk] at this
      · rw [if_neg (by omega)]
        by_cases h6 : startL T C B 6 ≤ m ∧ m < startL T C B 6 + 32 * B
        · exfalso
          have := kBlock T C B ((m - startL T C B 6) / 32) ((m - startL T C B 6) % 32) (by omega) (by omega)
          rw [show startL T C B 6 + 32 * ((m - startL T C B 6) / 32) + (m - startL T C B 6) % 32 = m by omega, hp] at this
          simp [zPk] at this
        · rw [if_neg (by omega)]
  exact key _ rfl
theorem guardW : Tryd.prog.eqGuardType Tryd.prog.depth 50 = false := by kernel_rfl
theorem neqW (a a' : Int) (w : World) : (binOp .neq 50 (.agg #[.int .i64 a, .int .u32 0, .int .u32 0]) (.agg #[.int .i64 a', .int .u32 0, .int .u32 0])).run Tryd.prog w = .ok (.bool (!(a == a'))) w := by
  have u3 := Tryd.underlying2
  have a3 := Tryd.isAgg2
  have z3 := Tryd.sizeOf2
  have u4 := Tryd.underlying48
  have a4 := Tryd.isAgg48
  have z4 := Tryd.sizeOf48
  have hS : Tryd.prog.underlying 50 = some (.struct (Tryd.prog.fieldsOf 50)) := by kernel_rfl
  have hp : Tryd.prog.stoodInHeld 50 = false := by kernel_rfl
  rw [run_neq_struct, show (10000 : Nat) = 9999 + 1 from rfl, run_equalIn_agg w 9999 50 _ _ hS hp]
  simp only [Program.fieldsOf, Tryd.underlying50]
  go_simp
  by_cases h1 : a = a' <;> simp [h1]
/-- The list, the words, and the package-level variable. -/
structure FL (T C B b : Nat) (va : Option Addr) (vc : Nat) (w W : World) : Prop where
  p : PS W (.slice va (startL T C B 7) vc) (allL T C B)
  f : FI b (startL T C B 7) (fv T C B T B) W
  g : Gl W
  b : Below w.heap.size w W
theorem FL.below {T C B b : Nat} {va : Option Addr} {vc : Nat} {w W W1 : World} (h : FL T C B b va vc w W) (hb : Below W.heap.size W W1) : FL T C B b va vc w W1 := ⟨h.p.below hb, h.f.below hb, h.g.below hb, h.b.trans (hb.mono h.b.size)⟩
set_option maxRecDepth 100000 in
set_option maxHeartbeats 1600000 in
theorem walk_ok (T C B : Nat) (w : World) (hg : Gl w) (hok : Ok T C B) : Calls Tryd.prog 6 #[LV T C B] w (Good w) := by
  have A := Lib.hid (At.box (T := T) (C := C) (B := B) hg rfl)
  have HL : Hid (allI T C B = allL T C B) := Lib.hid (allI_ok hok)
  have HLL := Lib.hid (allL_len T C B)
  have HF := Lib.hid (fun W hW => first_ok T C B W hW hok)
  have HA := Lib.hid (fun W hW => lall_any (T : Int) (C : Int) (B : Int) W hW)
  rw [allI_ok hok] at HA
  have hN : startL T C B 7 ≤ 4096 := hok.2
  have FK := Lib.hid (fun m hm => fv_kind T C B m hm)
  have gW := guardW
  have qW := neqW
  clear hg hok
  unfold Good
  go_enter Tryd.func6, Tryd.ntmps6
  go_upto_region 1 with fail
  obtain ⟨x0, x1, x2⟩ := A.out.x
  obtain ⟨n, hn⟩ : ∃ n, w.heap.size = n := ⟨_, rfl⟩
  rw [hn] at A x0 x1 x2
  rw [hn]
  generalize w.alloc (.cells #[.int .i64 T, .int .i64 C, .int .i64 B] 23) = W0 at *
  have i1 : At T C B n w W0.drew := A.out.below (Below.refl _ _).drew
  clear A hn
  go_region_law (first
    | (go_simp; go_at_call 13; (with_reducible refine (HA.out _ i1.g).mono ?_); rintro e w5 ⟨v, rfl, hps, hb5⟩; have i2 := i1.below hb5; clear hb5 i1; have i1 := i2; clear i2; obtain ⟨z0, z1, z2⟩ := i1.x; obtain ⟨va, vc, hv, hr⟩ := hps; rw [HLL.out] at hv; subst hv; have PP : Hid (PS w5 (.slice va (startL T C B 7) vc) (allL T C B)) := Lib.hid ⟨va, vc, by rw [HLL.out], hr⟩; clear hr)
    | (go_simp; go_at_call 27; (with_reducible refine (HF.out _ i1.g).mono ?_); rintro e w6 ⟨b, rfl, hfi, hb6⟩; have i2 := i1.below hb6; have PQ := Lib.hid (PP.out.below hb6); clear hb6 i1; have i1 := i2; clear i2 PP; have FF := Lib.hid hfi; clear hfi; obtain ⟨z3, z4, z5⟩ := i1.x))
  all_goals (
    have FLH : Hid (FL T C B b va vc w w6) := Lib.hid ⟨PQ.out, FF.out, i1.g, i1.b⟩
    clear PQ FF i1 HF HA HL x0 x1 x2 z0 z1 z2 z3 z4 z5
    go_wp2_with fail
    go_loopw [19] (fun iv wr => ∃ m : Nat, m ≤ startL T C B 7 ∧ iv = .int .i64 m ∧ FL T C B b va vc w wr) (fun iv _ => startL T C B 7 - (intOf iv).toNat)
    case atStart => exact ⟨0, by omega, rfl, FLH.out⟩
    case round =>
      clear FLH
      obtain ⟨m, hm, rfl, hfl⟩ := hrel
      have FLH := Lib.hid hfl
      by_cases hlt : m < startL T C B 7
      · obtain ⟨a', c', hv, hr⟩ := hfl.p
        rcases hr with h | ⟨kb, off, rfl, hbl, hc⟩
        · have := HLL.out; rw [h] at this; simp at this; omega
        obtain ⟨e1, e2⟩ : va = some ⟨kb, off, none⟩ ∧ True := by simp only [Value.slice.injEq] at hv; exact ⟨hv.1, trivial⟩
        subst e1
        clear hv
        obtain ⟨c0, c1, c2⟩ := hc m (by rw [HLL.out]; exact hlt)
        clear hc
        rw [show (allL T C B).getD m zPk = kindAt T C B m from allN_at T C B hlt] at c0 c1 c2
        obtain ⟨⟨y0, y1, y2⟩, -⟩ := hfl.f.cell m hlt
        rw [FK.out m hlt] at y0
        have hbb := hfl.f.lt
        clear hfl
        have hmI : (m : Int) < startL T C B 7 := by omega
        have WK := Lib.hid (show ∀ x y z, kindAt T C B m = (x, y, z) → wantK (kindAt T C B m) = wantK (x, y, z) from fun x y z h => by rw [h])
        obtain ⟨kx, ky, kz, hk⟩ : ∃ x y z, kindAt T C B m = (x, y, z) := ⟨_, _, _, rfl⟩
        rw [WK.out _ _ _ hk] at y0
        rw [hk] at c0 c1 c2
        simp only at c0 c1 c2
        clear WK hk
        have hne : kb ≠ wr.heap.size := by omega
        have hne2 : b ≠ wr.heap.size := by omega
        have hne3 : b ≠ wr.heap.size + 1 := by omega
        by_cases h2 : kx = 2
        · subst h2
          rw [show wantK ((2, ky, kz)) = 1 by rfl] at y0
          go_wp2_with fail
          go_quiet (fail)
          go_wp2_with fail
          go_roundw
          case rel => exact ⟨m + 1, by omega, by go_num, FLH.out.below (below_drewN (((Below.refl _ _).alloc (Nat.le_refl _) _).alloc (by simp) _) _)⟩
          case measure => simp [intOf]; omega
        · have n2 : (kx == 2) = false := by rw [beq_eq_false_iff_ne]; exact h2
          by_cases h7 : kx = 7
          · subst h7
            by_cases hz : kz = 0
            · subst hz
              rw [show wantK ((7, ky, 0)) = 2 by rfl] at y0
              go_wp2_with fail
              go_quiet (fail)
              go_wp2_with fail
              go_roundw
              case rel => exact ⟨m + 1, by omega, by go_num, FLH.out.below (below_drewN (((Below.refl _ _).alloc (Nat.le_refl _) _).alloc (by simp) _) _)⟩
              case measure => simp [intOf]; omega
            · have nz : (kz == 0) = false := by rw [beq_eq_false_iff_ne]; exact hz
              rw [show wantK ((7, ky, kz)) = 0 by unfold wantK; simp [hz]] at y0
              go_wp2_with fail
              go_quiet (fail)
              go_wp2_with fail
              go_roundw
              case rel => exact ⟨m + 1, by omega, by go_num, FLH.out.below (below_drewN (((Below.refl _ _).alloc (Nat.le_refl _) _).alloc (by simp) _) _)⟩
              case measure => simp [intOf]; omega
          · have n7 : (kx == 7) = false := by rw [beq_eq_false_iff_ne]; exact h7
            by_cases h9 : kx = 9
            · subst h9
              by_cases hz : kz = 0
              · subst hz
                rw [show wantK ((9, ky, 0)) = 2 by rfl] at y0
                go_wp2_with fail
                go_quiet (fail)
                go_wp2_with fail
                go_roundw
                case rel => exact ⟨m + 1, by omega, by go_num, FLH.out.below (below_drewN (((Below.refl _ _).alloc (Nat.le_refl _) _).alloc (by simp) _) _)⟩
                case measure => simp [intOf]; omega
              · have nz : (kz == 0) = false := by rw [beq_eq_false_iff_ne]; exact hz
                rw [show wantK ((9, ky, kz)) = 0 by unfold wantK; simp [hz]] at y0
                go_wp2_with fail
                go_quiet (fail)
                go_wp2_with fail
                go_roundw
                case rel => exact ⟨m + 1, by omega, by go_num, FLH.out.below (below_drewN (((Below.refl _ _).alloc (Nat.le_refl _) _).alloc (by simp) _) _)⟩
                case measure => simp [intOf]; omega
            · have n9 : (kx == 9) = false := by rw [beq_eq_false_iff_ne]; exact h9
              rw [show wantK ((kx, ky, kz)) = 0 by unfold wantK; simp [h2, h7, h9]] at y0
              go_wp2_with fail
              go_quiet (fail)
              go_wp2_with fail
              go_roundw
              case rel => exact ⟨m + 1, by omega, by go_num, FLH.out.below (below_drewN (((Below.refl _ _).alloc (Nat.le_refl _) _).alloc (by simp) _) _)⟩
              case measure => simp [intOf]; omega
      · clear hfl
        go_wp2_with fail
        refine (awake_any _ FLH.out.g).mono ?_
        rintro e w5 ⟨rfl, hb⟩
        replace FLH := Lib.hid (FLH.out.below hb)
        clear hb
        go_wp2_with fail
        go_ret
        exact ⟨rfl, FLH.out.b⟩)
set_option maxRecDepth 100000 in
set_option maxHeartbeats 1600000 in
theorem walk_no (T C B : Int) (w : World) (hg : Gl w) (h : checkI T C B ≠ 0) : Calls Tryd.prog 6 #[LV T C B] w (Good w) := by
  have A := Lib.hid (At.box (T := T) (C := C) (B := B) hg rfl)
  have HF := Lib.hid (fun W hW => first_no T C B W hW h)
  have HA := Lib.hid (fun W hW => lall_any T C B W hW)
  rw [allI_no h] at HA
  clear hg h
  unfold Good
  go_enter Tryd.func6, Tryd.ntmps6
  go_upto_region 1 with fail
  obtain ⟨x0, x1, x2⟩ := A.out.x
  obtain ⟨n, hn⟩ : ∃ n, w.heap.size = n := ⟨_, rfl⟩
  rw [hn] at A x0 x1 x2
  rw [hn]
  generalize w.alloc (.cells #[.int .i64 T, .int .i64 C, .int .i64 B] 23) = W0 at *
  have i1 : At T C B n w W0.drew := A.out.below (Below.refl _ _).drew
  clear A hn
  go_region_law (first
    | (go_simp; go_at_call 13; (with_reducible refine (HA.out _ i1.g).mono ?_); rintro e w5 ⟨v, rfl, hps, hb5⟩; have i2 := i1.below hb5; clear hb5 i1; have i1 := i2; clear i2; obtain ⟨z0, z1, z2⟩ := i1.x; obtain ⟨va, vc, hv, -⟩ := hps; rw [List.length_nil] at hv; subst hv)
    | (go_simp; go_at_call 27; (with_reducible refine (HF.out _ i1.g).mono ?_); rintro e w6 ⟨rfl, hb6⟩; have i2 := i1.below hb6; clear hb6 i1; have i1 := i2; clear i2; obtain ⟨z3, z4, z5⟩ := i1.x))
  all_goals (
    have G := Lib.hid i1.g
    have BB := Lib.hid i1.b
    clear i1 HF HA x0 x1 x2 z0 z1 z2 z3 z4 z5
    go_wp2_with fail
    refine wp_loop_rounds 1 ?_
    rw [rounds_succ]
    go_wp2_with fail
    refine (awake_any _ G.out).mono ?_
    rintro e w5 ⟨rfl, hb⟩
    replace BB := Lib.hid (BB.out.trans (hb.mono BB.out.size))
    clear hb
    go_wp2_with fail
    go_ret
    exact ⟨rfl, BB.out⟩)
theorem walk (T C B : Int) (w : World) (hg : Gl w) : Calls Tryd.prog 6 #[LV T C B] w (Good w) := by
  by_cases h : checkI T C B = 0
  · obtain ⟨t, c, b, rfl, rfl, rfl, hok⟩ := checkI_zero h
    exact walk_ok t c b w hg hok
  · exact walk_no T C B w hg h
end Go.Proofs.YtgndlknlahglcaaDoor.layoutFirst
