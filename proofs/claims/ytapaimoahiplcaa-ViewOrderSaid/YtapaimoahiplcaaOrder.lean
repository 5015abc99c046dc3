/- ViewOrder: the walk. -/
import Derived.Test.YtapaimoahiplcaaRot
namespace Go.Proofs.Ytapaimoahiplcaa
open Go.RowKit Go.Shelf Go.Maps

def HeadT (w : World) (a : List (Int × Int)) (t : Nat) (vo iv : Value) (wr : World) : Prop :=
  ∃ k : Nat, k ≤ a.length ∧ iv = .int .i64 k ∧ wr.ownsRow w.heap.size 37 2 vo (rotL a t k).length (flat (rotL a t k)) ∧ Below w.heap.size w wr

/-- One call of With lies at (b, o). -/
structure Cel (W : World) (b o : Nat) (p : Int × Int) : Prop where
  l : b < W.heap.size
  c1 : W.cell? ⟨b, o, none⟩ = some (.int .i64 p.1)
  c2 : W.cell? ⟨b, o + 1, none⟩ = some (.int .i64 p.2)
theorem Cel.below {W W' : World} {b o : Nat} {p : Int × Int} (h : Cel W b o p) (hb : Below W.heap.size W W') : Cel W' b o p :=
  ⟨Nat.lt_of_lt_of_le h.l hb.size, (hb.cell (p := ⟨b, o, none⟩) h.l).trans h.c1, (hb.cell (p := ⟨b, o + 1, none⟩) h.l).trans h.c2⟩
def RowB (W : World) (B : Nat) (v : Value) (out : List (Int × Int)) : Prop := W.ownsRow B 37 2 v out.length (flat out)
theorem RowB.below {W W' : World} {B : Nat} {v : Value} {out : List (Int × Int)} (h : RowB W B v out) (hb : Below W.heap.size W W') : RowB W' B v out := row_below h hb

theorem grown_keep {W W1 w1 : World} {vo : Value} {n B : Nat} {xs : List Value} {k : Nat} {o : Obj} (hown : W.ownsRow B 37 2 vo n xs) (hb : Below W.heap.size W W1) (hg : W1.grownBy w1 vo.ownBlock) (hk : W.heap[k]? = some o) (ho : ∀ cs f, o ≠ .cells cs 37 f) : w1.heap[k]? = some o := by
  have hlt := lt_of_block hk
  rw [hg.block k (Nat.lt_of_lt_of_le hlt hb.size) (fun e => ?_), hb.block k hlt, hk]
  obtain ⟨h1, ⟨h2, h3⟩ | ⟨g, cap, cur, hv, hB, hh, r⟩⟩ := hown
  · subst h2; simp [Value.ownBlock] at e
  · subst hv
    simp only [Value.ownBlock, Option.some.injEq] at e
    subst e
    rw [hk] at hh
    exact ho _ _ (by simpa using hh)
theorem Bx.grown {W W1 w1 : World} {vo : Value} {n B : Nat} {xs : List Value} {b : Nat} {p : Option Nat} {m : List (Int × Int)} (h : Bx W b p m) (hown : W.ownsRow B 37 2 vo n xs) (hb : Below W.heap.size W W1) (hg : W1.grownBy w1 vo.ownBlock) : Bx w1 b p m := by
  refine ⟨grown_keep hown hb hg h.c (by simp), ?_⟩
  obtain ⟨h1, h2 | ⟨b', n', e, hn, es, clock, hk, F, hs, hD⟩⟩ := h.v
  · exact ⟨h1, .inl h2⟩
  · exact ⟨h1, .inr ⟨b', n', e, hn, es, clock, grown_keep hown hb hg hk (by simp), F, hs, hD⟩⟩

set_option maxRecDepth 100000 in
set_option maxHeartbeats 16000000 in
theorem order (v0 : Value) (ops0 : List (Int × Int)) (v1 : Value) (ops1 : List (Int × Int)) (t : Nat) (w : World) (h0 : IsOps w v0 ops0) (o0 : OpsOk ops0) (h1 : IsOps w v1 ops1) (o1 : OpsOk ops1) (ht : t < 256) :
    Calls Try.prog 7 #[v0, v1, .int .u8 t] w fun e w' => e = .returned (.bool true) ∧ Below w.heap.size w w' := by
  obtain ⟨i0, hi, hz0, hz1, hz2⟩ := info_parts info37
  have H0 := Lib.hid h0
  have H1 := Lib.hid h1
  have O0 := Lib.hid o0
  have O1 := Lib.hid o1
  have BB := Lib.hid (Below.refl w.heap.size w)
  clear h1 o0 o1
  obtain ⟨sa, sc, rfl⟩ := h0.slice
  clear h0
  go_enter Try.func7, Try.ntmps7
  go_wp2_with fail
  by_cases hg0 : 100 < ops0.length
  · skip
    refine (great_is (r := true) (by simp; omega) H0.out).mono ?_
    rintro e wn ⟨rfl, rfl⟩
    go_wp2_with fail
    refine (awake_any _).mono ?_
    rintro e wn ⟨rfl, hb⟩
    have H0' := Lib.hid (H0.out.below (hb))
    have H1' := Lib.hid (H1.out.below (hb))
    have BB' := Lib.hid (BB.out.trans ((hb).mono BB.out.size))
    clear H0
    have H0 := H0'
    clear H0'
    clear H1
    have H1 := H1'
    clear H1'
    clear BB
    have BB := BB'
    clear BB'
    clear hb
    go_wp2
    go_ret
    exact ⟨rfl, BB.out⟩
  · skip
    refine (great_is (r := false) (by simp; omega) H0.out).mono ?_
    rintro e wn ⟨rfl, rfl⟩
    go_wp2_with fail
    by_cases hg1 : 100 < ops1.length
    · skip
      refine (great_is (r := true) (by simp; omega) H1.out).mono ?_
      rintro e wn ⟨rfl, rfl⟩
      go_wp2_with fail
      refine (awake_any _).mono ?_
      rintro e wn ⟨rfl, hb⟩
      have H0' := Lib.hid (H0.out.below (hb))
      have H1' := Lib.hid (H1.out.below (hb))
      have BB' := Lib.hid (BB.out.trans ((hb).mono BB.out.size))
      clear H0
      have H0 := H0'
      clear H0'
      clear H1
      have H1 := H1'
      clear H1'
      clear BB
      have BB := BB'
      clear BB'
      clear hb
      go_wp2
      go_ret
      exact ⟨rfl, BB.out⟩
    · skip
      by_cases hn : ops0.length = 0
      · skip
        refine (great_is (r := false) (by simp; omega) H1.out).mono ?_
        rintro e wn ⟨rfl, rfl⟩
        have hn' : ((ops0.length : Int) == 0) = true := by simp [hn]
        go_wp2_with fail
        refine (awake_any _).mono ?_
        rintro e wn ⟨rfl, hb⟩
        have H0' := Lib.hid (H0.out.below (hb))
        have H1' := Lib.hid (H1.out.below (hb))
        have BB' := Lib.hid (BB.out.trans ((hb).mono BB.out.size))
        clear H0
        have H0 := H0'
        clear H0'
        clear H1
        have H1 := H1'
        clear H1'
        clear BB
        have BB := BB'
        clear BB'
        clear hb
        go_wp2
        go_ret
        exact ⟨rfl, BB.out⟩
      · skip
        refine (great_is (r := false) (by simp; omega) H1.out).mono ?_
        rintro e wn ⟨rfl, rfl⟩
        have hn' : ((ops0.length : Int) == 0) = false := beq_eq_false_iff_ne.2 (by omega)
        go_wp2_with fail
        obtain ⟨sb, off, cap', e, hsb, hcell⟩ : ∃ b off cap', Value.slice sa ops0.length sc = .slice (some ⟨b, off, none⟩) ops0.length cap' ∧ b < w.heap.size ∧ ∀ i, i < ops0.length → w.cell? ⟨b, off + i * 2, none⟩ = some (.int .i64 (ops0.getD i (0, 0)).1) ∧ w.cell? ⟨b, off + i * 2 + 1, none⟩ = some (.int .i64 (ops0.getD i (0, 0)).2) := by
          rcases H0.out with ⟨a', c', _, e⟩ | ⟨b, off, c', e, hb, hc⟩
          · rw [e] at hn; simp at hn
          · exact ⟨b, off, c', e, hb, hc⟩
        simp only [Value.slice.injEq] at e
        obtain ⟨rfl, -, rfl⟩ := e
        have HC := Lib.hid hcell
        clear hcell
        go_loopw [7, 29] (fun vo iv wr => HeadT w ops0 t vo iv wr) (fun _ iv _ => ops0.length - (intOf iv).toNat)
        case atStart => exact ⟨0, by omega, rfl, World.ownsRow_nil _ _ _ _, Below.refl _ _⟩
        case round =>
          obtain ⟨k, hk, rfl, hown, hnx⟩ := hrel
          have hws := hnx.size
          by_cases hlt : k < ops0.length
          · skip
            have hkl : (k + t) % ops0.length < ops0.length := Nat.mod_lt _ (by omega)
            obtain ⟨c1, c2⟩ : wr.cell? ⟨sb, off + (k + t) % ops0.length * 2, none⟩ = some (.int .i64 (ops0.getD ((k + t) % ops0.length) (0, 0)).1) ∧ wr.cell? ⟨sb, off + (k + t) % ops0.length * 2 + 1, none⟩ = some (.int .i64 (ops0.getD ((k + t) % ops0.length) (0, 0)).2) := ⟨(hnx.cell hsb).trans (HC.out _ hkl).1, (hnx.cell hsb).trans (HC.out _ hkl).2⟩
            have hrot := rotL_succ ops0 t k
            have hrl := rotL_length ops0 t k
            rw [show ops0.getD ((k + t) % ops0.length) (0, 0) = ((ops0.getD ((k + t) % ops0.length) (0, 0)).1, (ops0.getD ((k + t) % ops0.length) (0, 0)).2) from rfl] at hrot
            generalize (ops0.getD ((k + t) % ops0.length) (0, 0)).1 = x at *
            generalize (ops0.getD ((k + t) % ops0.length) (0, 0)).2 = y at *
            generalize rotL ops0 t k = out at *
            have HR := Lib.hid hrot
            clear hrot
            have hr : Int.tmod ((k : Int) + (t : Int)) (ops0.length : Int) = (((k + t) % ops0.length : Nat) : Int) := by rw [Int.tmod_eq_emod_of_nonneg (by omega)]; simp
            have hk0 : (0 : Int) ≤ (((k + t) % ops0.length : Nat) : Int) := by omega
            have hk1 : (((k + t) % ops0.length : Nat) : Int) < (ops0.length : Int) := by omega
            have hk2 : (0 : Int) ≤ ((k : Int) + (t : Int)) % (ops0.length : Int) := Int.emod_nonneg _ (by omega)
            have hk3 : ((k : Int) + (t : Int)) % (ops0.length : Int) < (ops0.length : Int) := Int.emod_lt_of_pos _ (by omega)
            have hw1 : IntKind.i64.wrap ((k : Int) + (t : Int)) = (k : Int) + (t : Int) := IntWalk.i64_in _ (by omega)
            have hw2 : IntKind.i64.wrap (t : Int) = (t : Int) := IntWalk.i64_in _ (by omega)
            go_wp2_with (first
              | (at_builtin; refine wpList_append_own _ rfl (.tmp 32) (.tmp 43) 22 rfl w.heap.size 37 i0 (.agg #[.int .i64 0, .int .i64 0]) 2 16 Try.underlying22 hi hz0 hz1 hz2 rfl (by decide) _ _ _ rfl (hown.alloc _) ⟨wr.heap.size, 0, none⟩ 1 1 [.int .i64 x, .int .i64 y] rfl rfl (op_new _ _ _) (pair_one _ _) (by unfold maxLen; omega) (by omega) (by simp; omega) ?_; intro v' w1 hown' hgrow _; have B1 := Lib.hid (below_app37 hws hnx hown hgrow); have O1 := Lib.hid (op_snoc hown'); clear hown' hgrow)
              | fail)
            go_roundw
            case rel => exact ⟨k + 1, by omega, by go_num, by rw [HR.out]; exact O1.out, B1.out⟩
            case measure => simp [intOf]; omega
          · skip
            have he : k = ops0.length := by omega
            subst he
            have RW := Lib.hid hown
            clear hown
            have H0' := Lib.hid (H0.out.below hnx)
            have H1' := Lib.hid (H1.out.below hnx)
            clear H0 H1 BB
            have H0 := H0'
            have H1 := H1'
            have BB := Lib.hid hnx
            clear H0' H1' hnx hws hlt hk
            have C0 := Lib.hid (show Cel wr sb off (ops0.getD 0 (0, 0)) from ⟨Nat.lt_of_lt_of_le hsb BB.out.size, by simpa using (BB.out.cell hsb).trans (HC.out 0 (by omega)).1, by simpa using (BB.out.cell hsb).trans (HC.out 0 (by omega)).2⟩)
            obtain ⟨OR, hmr⟩ := made_rot t O0.out (by omega)
            have HMR := Lib.hid hmr
            have OR := Lib.hid OR
            clear hmr
            have hrl : (rotL ops0 t ops0.length).length = ops0.length := rotL_length _ _ _
            have hx0 := (O0.out (ops0.getD 0 (0, 0)) (by rw [List.getD, List.getElem?_eq_getElem (by omega)]; exact List.getElem_mem _)).1
            obtain ⟨x0, x1⟩ := hx0
            rw [show ops0.getD 0 (0, 0) = ((ops0.getD 0 (0, 0)).1, (ops0.getD 0 (0, 0)).2) from rfl] at C0 HMR OR
            generalize (ops0.getD 0 (0, 0)).1 = x at *
            generalize (ops0.getD 0 (0, 0)).2 = y at *
            generalize rotL ops0 t ops0.length = out at *
            have RX := Lib.hid (show RowB wr w.heap.size u7 out from RW.out)
            clear RW
            have M0 := Lib.hid (ok_made O0.out)
            have M1 := Lib.hid (ok_made O1.out)
            go_wp2_with fail
            refine (made_any _ _ _ H0.out (by omega) O0.out).mono ?_
            rintro e w1 ⟨p1, m1, rfl, va, qa, hb⟩
            have H0' := Lib.hid (H0.out.below (hb))
            have H1' := Lib.hid (H1.out.below (hb))
            have C0' := Lib.hid (C0.out.below (hb))
            have RX' := Lib.hid (RX.out.below (hb))
            have BB' := Lib.hid (BB.out.trans ((hb).mono BB.out.size))
            clear H0
            have H0 := H0'
            clear H0'
            clear H1
            have H1 := H1'
            clear H1'
            clear C0
            have C0 := C0'
            clear C0'
            clear RX
            have RX := RX'
            clear RX'
            clear BB
            have BB := BB'
            clear BB'
            clear hb
            have H0' := Lib.hid (H0.out.below (below_new w1 (.cells #[.map p1] 28)))
            have H1' := Lib.hid (H1.out.below (below_new w1 (.cells #[.map p1] 28)))
            have C0' := Lib.hid (C0.out.below (below_new w1 (.cells #[.map p1] 28)))
            have RX' := Lib.hid (RX.out.below (below_new w1 (.cells #[.map p1] 28)))
            have BB' := Lib.hid (BB.out.trans ((below_new w1 (.cells #[.map p1] 28)).mono BB.out.size))
            clear H0
            have H0 := H0'
            clear H0'
            clear H1
            have H1 := H1'
            clear H1'
            clear C0
            have C0 := C0'
            clear C0'
            clear RX
            have RX := RX'
            clear RX'
            clear BB
            have BB := BB'
            clear BB'
            have A1 := Lib.hid (Bx.new va)
            have P1 := Lib.hid (IsP.below qa (below_new w1 (.cells #[.map p1] 28)))
            clear va qa
            go_wp2_with fail
            generalize w1.alloc (.cells #[.map p1] 28) = w1' at *
            generalize w1.heap.size = b1 at *
            refine (made_any _ _ _ H1.out (by omega) O1.out).mono ?_
            rintro e w2 ⟨p2, m2, rfl, va, qa, hb⟩
            have H0' := Lib.hid (H0.out.below (hb))
            have H1' := Lib.hid (H1.out.below (hb))
            have C0' := Lib.hid (C0.out.below (hb))
            have RX' := Lib.hid (RX.out.below (hb))
            have A1' := Lib.hid (A1.out.below (hb))
            have P1' := Lib.hid (P1.out.below (hb))
            have BB' := Lib.hid (BB.out.trans ((hb).mono BB.out.size))
            clear H0
            have H0 := H0'
            clear H0'
            clear H1
            have H1 := H1'
            clear H1'
            clear C0
            have C0 := C0'
            clear C0'
            clear RX
            have RX := RX'
            clear RX'
            clear A1
            have A1 := A1'
            clear A1'
            clear P1
            have P1 := P1'
            clear P1'
            clear BB
            have BB := BB'
            clear BB'
            clear hb
            have H0' := Lib.hid (H0.out.below (below_new w2 (.cells #[.map p2] 28)))
            have H1' := Lib.hid (H1.out.below (below_new w2 (.cells #[.map p2] 28)))
            have C0' := Lib.hid (C0.out.below (below_new w2 (.cells #[.map p2] 28)))
            have RX' := Lib.hid (RX.out.below (below_new w2 (.cells #[.map p2] 28)))
            have A1' := Lib.hid (A1.out.below (below_new w2 (.cells #[.map p2] 28)))
            have P1' := Lib.hid (P1.out.below (below_new w2 (.cells #[.map p2] 28)))
            have BB' := Lib.hid (BB.out.trans ((below_new w2 (.cells #[.map p2] 28)).mono BB.out.size))
            clear H0
            have H0 := H0'
            clear H0'
            clear H1
            have H1 := H1'
            clear H1'
            clear C0
            have C0 := C0'
            clear C0'
            clear RX
            have RX := RX'
            clear RX'
            clear A1
            have A1 := A1'
            clear A1'
            clear P1
            have P1 := P1'
            clear P1'
            clear BB
            have BB := BB'
            clear BB'
            have A2 := Lib.hid (Bx.new va)
            have P2 := Lib.hid (IsP.below qa (below_new w2 (.cells #[.map p2] 28)))
            clear va qa
            clear P1 P2 H0 H1
            have hsz : (w2.alloc (.cells #[.map p2] 28)).heap.size = w2.heap.size + 1 := by simp
            have ON := op_new (w2.alloc (.cells #[.map p2] 28)) x y
            rw [hsz] at ON
            have hbs : w.heap.size ≤ (w2.alloc (.cells #[.map p2] 28)).heap.size := BB.out.size
            have kc1 := C0.out.c1
            have kc2 := C0.out.c2
            have rx := RX.out
            unfold RowB at rx
            have A1b := A1.out.below (below_new _ (.cells #[.int .i64 x, .int .i64 y] 37))
            have hn0 : (0 : Int) < (ops0.length : Int) := by omega
            go_wp2_with (first
              | (at_builtin; refine wpList_append_own _ rfl (.tmp 57) (.tmp 61) 22 rfl w.heap.size 37 i0 (.agg #[.int .i64 0, .int .i64 0]) 2 16 Try.underlying22 hi hz0 hz1 hz2 rfl (by decide) _ _ _ rfl (rx.alloc _) ⟨w2.heap.size + 1, 0, none⟩ 1 1 [.int .i64 x, .int .i64 y] rfl rfl ON (pair_one _ _) (by unfold maxLen; omega) (by omega) (by simp; omega) ?_; intro v' w3 hown' hgrow _)
              | fail)
            clear A1b
            have b3 := below_app37 hbs BB.out rx hgrow
            have A1' := Lib.hid (A1.out.grown rx (below_new _ _) hgrow)
            have A2' := Lib.hid (A2.out.grown rx (below_new _ _) hgrow)
            have C0' := Lib.hid (show Cel w3 sb off (x, y) from ⟨Nat.lt_of_lt_of_le hsb b3.size, (b3.cell hsb).trans ((BB.out.cell hsb).symm.trans kc1), (b3.cell hsb).trans ((BB.out.cell hsb).symm.trans kc2)⟩)
            have HR := Lib.hid (own_ops (op_snoc hown'))
            clear A1 A2 C0 BB RX rx hown' hgrow kc1 kc2 ON hbs hsz
            have A1 := A1'
            have A2 := A2'
            have C0 := C0'
            have BB := Lib.hid b3
            clear A1' A2' C0' b3 HC
            generalize w2.heap.size = b2 at *
            refine (made_any _ _ _ HR.out (by simp; omega) OR.out).mono ?_
            rintro e w4 ⟨p3, m3, rfl, va, qa, hb⟩
            rw [HMR.out] at va
            clear qa HR
            have A1' := Lib.hid (A1.out.below (hb))
            have A2' := Lib.hid (A2.out.below (hb))
            have C0' := Lib.hid (C0.out.below (hb))
            have BB' := Lib.hid (BB.out.trans ((hb).mono BB.out.size))
            clear A1
            have A1 := A1'
            clear A1'
            clear A2
            have A2 := A2'
            clear A2'
            clear C0
            have C0 := C0'
            clear C0'
            clear BB
            have BB := BB'
            clear BB'
            clear hb
            have A1' := Lib.hid (A1.out.below (below_new w4 (.cells #[.map p3] 28)))
            have A2' := Lib.hid (A2.out.below (below_new w4 (.cells #[.map p3] 28)))
            have C0' := Lib.hid (C0.out.below (below_new w4 (.cells #[.map p3] 28)))
            have BB' := Lib.hid (BB.out.trans ((below_new w4 (.cells #[.map p3] 28)).mono BB.out.size))
            clear A1
            have A1 := A1'
            clear A1'
            clear A2
            have A2 := A2'
            clear A2'
            clear C0
            have C0 := C0'
            clear C0'
            clear BB
            have BB := BB'
            clear BB'
            have A3 := Lib.hid (Bx.new va)
            clear va 
            go_wp2_with fail
            generalize w4.alloc (.cells #[.map p3] 28) = w4' at *
            generalize w4.heap.size = b3 at *
            clear OR HMR hn' hrl
            clear hi hz0 hz1 hz2
            generalize madeL ops0 = mx at *
            generalize madeL ops1 = my at *
            clear O0 O1
            have hnn : 0 < ops0.length := by omega
            clear hn hn0
            obtain ⟨c1, hc1⟩ : ∃ c, belowL mx my = c := ⟨_, rfl⟩
            obtain ⟨c2, hc2⟩ : ∃ c, belowL my mx = c := ⟨_, rfl⟩
            have hs : ∀ r, (c1 && c2) = r → decide (mx = my) = r := fun r hr => by rw [same_dec M0.out M1.out, hc1, hc2, hr]
            have hj := atL_joinL M0.out M1.out x
            have hle : c1 = true → atL mx x ≤ atL my x := fun h => (belowL_iff M0.out M1.out).1 (hc1.trans h) x
            have C1 := Lib.hid hc1
            have C2 := Lib.hid hc2
            have HS := Lib.hid hs
            clear hc1 hc2 hs
            cases c1
            · skip
              have HS : Hid (∀ r, false = r → decide (mx = my) = r) := HS
              clear hle
              have A1' := Lib.hid (A1.out.below (Below.refl _ _).drew)
              have A2' := Lib.hid (A2.out.below (Below.refl _ _).drew)
              have C0' := Lib.hid (C0.out.below (Below.refl _ _).drew)
              have A3' := Lib.hid (A3.out.below (Below.refl _ _).drew)
              have BB' := Lib.hid (BB.out.drew)
              clear A1
              have A1 := A1'
              clear A1'
              clear A2
              have A2 := A2'
              clear A2'
              clear C0
              have C0 := C0'
              clear C0'
              clear A3
              have A3 := A3'
              clear A3'
              clear BB
              have BB := BB'
              clear BB'
              refine wp_region_held_drew (S := fun w' => w'.cell? ⟨b1, 0, none⟩ = some (.map p1) ∧ w'.cell? ⟨b2, 0, none⟩ = some (.map p2) ∧ w'.cell? ⟨b3, 0, none⟩ = some (.map p3)) (by kernel_rfl) ⟨A1.out.cell, A2.out.cell, A3.out.cell⟩ (fun hHeld => ?_)
              refine wpAnyH_take (i := 0) (oi := { dst := some 66, op := Op.load 28 (Operand.tmp 9), type := 28, pos := "law.go:117", after := #[], guard := none }) (v := ?av0) rfl (by kernel_rfl) (by kernel_rfl) (by kernel_rfl) (fun _ _ _ h => h) (Or.inl ⟨by rfl, ?ay0⟩) (by assumption) ?ar0
              case ay0 => (intro w hSw; (try dsimp only at hSw); go_simp; try with_reducible rfl)
              (try simp only [Act.put])
              (try simp only [List.setIfInBounds_toArray])
              (try simp only [List.set_cons_succ])
              (try simp only [List.set_cons_zero])
              refine wpAnyH_take (i := 1) (oi := { dst := some 67, op := Op.load 28 (Operand.tmp 13), type := 28, pos := "law.go:117", after := #[], guard := none }) (v := ?av1) rfl (by kernel_rfl) (by kernel_rfl) (by kernel_rfl) (fun _ _ _ h => h) (Or.inl ⟨by rfl, ?ay1⟩) (by assumption) ?ar1
              case ay1 => (intro w hSw; (try dsimp only at hSw); go_simp; try with_reducible rfl)
              (try simp only [Act.put])
              (try simp only [List.setIfInBounds_toArray])
              (try simp only [List.set_cons_succ])
              (try simp only [List.set_cons_zero])
              refine wpAnyH_ready (rs := [2]) (by kernel_rfl) (by simp) ?_
              refine AllReadyH.cons (o := { dst := some 68, op := Op.call { callee := Callee.value (Operand.func 22), args := #[Operand.tmp 66, Operand.tmp 67], argTypes := #[28, 28] }, type := 4, pos := "law.go:117", after := #[{ on := 0, ground := Ground.data }, { on := 1, ground := Ground.data }], guard := none }) rfl (fun K hK => ?_) AllReadyH.nil
              go_simp
              go_at_call 22
              refine (same_is (r := true) (by simp) A1.out.v A3.out.v).mono ?_
              rintro e wn ⟨rfl, hb⟩
              have A1' := Lib.hid (A1.out.below hb)
              have A2' := Lib.hid (A2.out.below hb)
              have C0' := Lib.hid (C0.out.below hb)
              have A3' := Lib.hid (A3.out.below hb)
              have BB' := Lib.hid (BB.out.trans (hb.mono BB.out.size))
              clear A1
              have A1 := A1'
              clear A1'
              clear A2
              have A2 := A2'
              clear A2'
              clear C0
              have C0 := C0'
              clear C0'
              clear A3
              have A3 := A3'
              clear A3'
              clear BB
              have BB := BB'
              clear BB'
              clear hb
              go_simp
              refine hK.out _ _ ?_ (fun hHeld => ?_)
              · exact ⟨A1.out.cell, A2.out.cell, A3.out.cell⟩
              clear hK K
              (try simp only [Act.put])
              (try simp only [List.setIfInBounds_toArray])
              (try simp only [List.set_cons_succ])
              (try simp only [List.set_cons_zero])
              refine wpAnyH_take (i := 3) (oi := { dst := some 69, op := Op.unOp UnOp.not 4 (Operand.tmp 68), type := 4, pos := "law.go:117", after := #[{ on := 2, ground := Ground.data }], guard := none }) (v := ?av3) rfl (by kernel_rfl) (by kernel_rfl) (by kernel_rfl) (fun _ _ _ h => h) (Or.inl ⟨by rfl, ?ay3⟩) (by assumption) ?ar3
              case ay3 => (intro w hSw; (try dsimp only at hSw); go_simp; try with_reducible rfl)
              (try simp only [Act.put])
              (try simp only [List.setIfInBounds_toArray])
              (try simp only [List.set_cons_succ])
              (try simp only [List.set_cons_zero])
              refine wpAnyH_take (i := 4) (oi := { dst := some 70, op := Op.move (Operand.tmp 69), type := 4, pos := "law.go:117", after := #[{ on := 3, ground := Ground.data }, { on := 2, ground := Ground.chain }], guard := none }) (v := ?av4) rfl (by kernel_rfl) (by kernel_rfl) (by kernel_rfl) (fun _ _ _ h => h) (Or.inl ⟨by rfl, ?ay4⟩) (by assumption) ?ar4
              case ay4 => (intro w hSw; (try dsimp only at hSw); go_simp; try with_reducible rfl)
              (try simp only [Act.put])
              (try simp only [List.setIfInBounds_toArray])
              (try simp only [List.set_cons_succ])
              (try simp only [List.set_cons_zero])
              refine wpAnyH_take (i := 5) (oi := { dst := some 71, op := Op.load 28 (Operand.tmp 9), type := 28, pos := "law.go:117", after := #[{ on := 4, ground := Ground.guard }], guard := some (4, false) }) (v := ?av5) rfl (by kernel_rfl) (by kernel_rfl) (by kernel_rfl) (fun _ _ _ h => h) (Or.inl ⟨by rfl, ?ay5⟩) (by assumption) ?ar5
              case ay5 => (intro w hSw; (try dsimp only at hSw); go_simp; try with_reducible rfl)
              (try simp only [Act.put])
              (try simp only [List.setIfInBounds_toArray])
              (try simp only [List.set_cons_succ])
              (try simp only [List.set_cons_zero])
              refine wpAnyH_take (i := 6) (oi := { dst := some 72, op := Op.load 28 (Operand.tmp 9), type := 28, pos := "law.go:117", after := #[{ on := 4, ground := Ground.guard }], guard := some (4, false) }) (v := ?av6) rfl (by kernel_rfl) (by kernel_rfl) (by kernel_rfl) (fun _ _ _ h => h) (Or.inl ⟨by rfl, ?ay6⟩) (by assumption) ?ar6
              case ay6 => (intro w hSw; (try dsimp only at hSw); go_simp; try with_reducible rfl)
              (try simp only [Act.put])
              (try simp only [List.setIfInBounds_toArray])
              (try simp only [List.set_cons_succ])
              (try simp only [List.set_cons_zero])
              refine wpAnyH_ready (rs := [7]) (by kernel_rfl) (by simp) ?_
              refine AllReadyH.cons (o := { dst := some 73, op := Op.call { callee := Callee.value (Operand.func 18), args := #[Operand.tmp 71, Operand.tmp 72], argTypes := #[28, 28] }, type := 4, pos := "law.go:117", after := #[{ on := 5, ground := Ground.data }, { on := 6, ground := Ground.data }, { on := 4, ground := Ground.chain }, { on := 4, ground := Ground.guard }], guard := some (4, false) }) rfl (fun K hK => ?_) AllReadyH.nil
              go_simp
              go_at_call 18
              refine (below_is (r := true) (below_refl M0.out) A1.out.v A1.out.v).mono ?_
              rintro e wn ⟨rfl, hb⟩
              have A1' := Lib.hid (A1.out.below hb)
              have A2' := Lib.hid (A2.out.below hb)
              have C0' := Lib.hid (C0.out.below hb)
              have A3' := Lib.hid (A3.out.below hb)
              have BB' := Lib.hid (BB.out.trans (hb.mono BB.out.size))
              clear A1
              have A1 := A1'
              clear A1'
              clear A2
              have A2 := A2'
              clear A2'
              clear C0
              have C0 := C0'
              clear C0'
              clear A3
              have A3 := A3'
              clear A3'
              clear BB
              have BB := BB'
              clear BB'
              clear hb
              go_simp
              refine hK.out _ _ ?_ (fun hHeld => ?_)
              · exact ⟨A1.out.cell, A2.out.cell, A3.out.cell⟩
              clear hK K
              (try simp only [Act.put])
              (try simp only [List.setIfInBounds_toArray])
              (try simp only [List.set_cons_succ])
              (try simp only [List.set_cons_zero])
              refine wpAnyH_take (i := 8) (oi := { dst := some 74, op := Op.unOp UnOp.not 4 (Operand.tmp 73), type := 4, pos := "law.go:117", after := #[{ on := 7, ground := Ground.data }, { on := 4, ground := Ground.guard }], guard := some (4, false) }) (v := ?av8) rfl (by kernel_rfl) (by kernel_rfl) (by kernel_rfl) (fun _ _ _ h => h) (Or.inl ⟨by rfl, ?ay8⟩) (by assumption) ?ar8
              case ay8 => (intro w hSw; (try dsimp only at hSw); go_simp; try with_reducible rfl)
              (try simp only [Act.put])
              (try simp only [List.setIfInBounds_toArray])
              (try simp only [List.set_cons_succ])
              (try simp only [List.set_cons_zero])
              refine wpAnyH_take (i := 9) (oi := { dst := some 75, op := Op.pick (Operand.tmp 70) (Operand.const (Value.bool true)) (Operand.tmp 74), type := 4, pos := "law.go:117", after := #[{ on := 4, ground := Ground.data }, { on := 8, ground := Ground.data }], guard := none }) (v := ?av9) rfl (by kernel_rfl) (by kernel_rfl) (by kernel_rfl) (fun _ _ _ h => h) (Or.inl ⟨by rfl, ?ay9⟩) (by assumption) ?ar9
              case ay9 => (intro w hSw; (try dsimp only at hSw); go_simp; try with_reducible rfl)
              (try simp only [Act.put])
              (try simp only [List.setIfInBounds_toArray])
              (try simp only [List.set_cons_succ])
              (try simp only [List.set_cons_zero])
              refine wpAnyH_take (i := 10) (oi := { dst := some 76, op := Op.move (Operand.tmp 75), type := 4, pos := "law.go:117", after := #[{ on := 9, ground := Ground.data }, { on := 7, ground := Ground.chain }], guard := none }) (v := ?av10) rfl (by kernel_rfl) (by kernel_rfl) (by kernel_rfl) (fun _ _ _ h => h) (Or.inl ⟨by rfl, ?ay10⟩) (by assumption) ?ar10
              case ay10 => (intro w hSw; (try dsimp only at hSw); go_simp; try with_reducible rfl)
              (try simp only [Act.put])
              (try simp only [List.setIfInBounds_toArray])
              (try simp only [List.set_cons_succ])
              (try simp only [List.set_cons_zero])
              refine wpAnyH_take (i := 11) (oi := { dst := some 77, op := Op.load 28 (Operand.tmp 9), type := 28, pos := "law.go:117", after := #[{ on := 10, ground := Ground.guard }], guard := some (10, false) }) (v := ?av11) rfl (by kernel_rfl) (by kernel_rfl) (by kernel_rfl) (fun _ _ _ h => h) (Or.inl ⟨by rfl, ?ay11⟩) (by assumption) ?ar11
              case ay11 => (intro w hSw; (try dsimp only at hSw); go_simp; try with_reducible rfl)
              (try simp only [Act.put])
              (try simp only [List.setIfInBounds_toArray])
              (try simp only [List.set_cons_succ])
              (try simp only [List.set_cons_zero])
              refine wpAnyH_take (i := 12) (oi := { dst := some 78, op := Op.load 28 (Operand.tmp 11), type := 28, pos := "law.go:117", after := #[{ on := 10, ground := Ground.guard }], guard := some (10, false) }) (v := ?av12) rfl (by kernel_rfl) (by kernel_rfl) (by kernel_rfl) (fun _ _ _ h => h) (Or.inl ⟨by rfl, ?ay12⟩) (by assumption) ?ar12
              case ay12 => (intro w hSw; (try dsimp only at hSw); go_simp; try with_reducible rfl)
              (try simp only [Act.put])
              (try simp only [List.setIfInBounds_toArray])
              (try simp only [List.set_cons_succ])
              (try simp only [List.set_cons_zero])
              refine wpAnyH_ready (rs := [13]) (by kernel_rfl) (by simp) ?_
              refine AllReadyH.cons (o := { dst := some 79, op := Op.call { callee := Callee.value (Operand.func 18), args := #[Operand.tmp 77, Operand.tmp 78], argTypes := #[28, 28] }, type := 4, pos := "law.go:117", after := #[{ on := 11, ground := Ground.data }, { on := 12, ground := Ground.data }, { on := 10, ground := Ground.chain }, { on := 10, ground := Ground.guard }], guard := some (10, false) }) rfl (fun K hK => ?_) AllReadyH.nil
              go_simp
              go_at_call 18
              refine (below_is C1.out A1.out.v A2.out.v).mono ?_
              rintro e wn ⟨rfl, hb⟩
              have A1' := Lib.hid (A1.out.below hb)
              have A2' := Lib.hid (A2.out.below hb)
              have C0' := Lib.hid (C0.out.below hb)
              have A3' := Lib.hid (A3.out.below hb)
              have BB' := Lib.hid (BB.out.trans (hb.mono BB.out.size))
              clear A1
              have A1 := A1'
              clear A1'
              clear A2
              have A2 := A2'
              clear A2'
              clear C0
              have C0 := C0'
              clear C0'
              clear A3
              have A3 := A3'
              clear A3'
              clear BB
              have BB := BB'
              clear BB'
              clear hb
              go_simp
              refine hK.out _ _ ?_ (fun hHeld => ?_)
              · exact ⟨A1.out.cell, A2.out.cell, A3.out.cell⟩
              clear hK K
              (try simp only [Act.put])
              (try simp only [List.setIfInBounds_toArray])
              (try simp only [List.set_cons_succ])
              (try simp only [List.set_cons_zero])
              refine wpAnyH_take (i := 14) (oi := { dst := some 80, op := Op.move (Operand.tmp 79), type := 4, pos := "law.go:117", after := #[{ on := 13, ground := Ground.data }, { on := 13, ground := Ground.chain }, { on := 10, ground := Ground.guard }], guard := some (10, false) }) (v := ?av14) rfl (by kernel_rfl) (by kernel_rfl) (by kernel_rfl) (fun _ _ _ h => h) (Or.inl ⟨by rfl, ?ay14⟩) (by assumption) ?ar14
              case ay14 => (intro w hSw; (try dsimp only at hSw); go_simp; try with_reducible rfl)
              (try simp only [Act.put])
              (try simp only [List.setIfInBounds_toArray])
              (try simp only [List.set_cons_succ])
              (try simp only [List.set_cons_zero])
              refine wpAnyH_take (i := 15) (oi := { dst := some 81, op := Op.load 28 (Operand.tmp 11), type := 28, pos := "law.go:117", after := #[{ on := 14, ground := Ground.guard }], guard := some (14, true) }) (v := undef) rfl (by kernel_rfl) (by kernel_rfl) (by kernel_rfl) (fun _ _ _ h => h) (Or.inr ⟨by kernel_rfl, rfl⟩) (by assumption) ?ar15
              (try simp only [Act.put])
              (try simp only [List.setIfInBounds_toArray])
              (try simp only [List.set_cons_succ])
              (try simp only [List.set_cons_zero])
              refine wpAnyH_take (i := 16) (oi := { dst := some 82, op := Op.load 28 (Operand.tmp 9), type := 28, pos := "law.go:117", after := #[{ on := 14, ground := Ground.guard }], guard := some (14, true) }) (v := undef) rfl (by kernel_rfl) (by kernel_rfl) (by kernel_rfl) (fun _ _ _ h => h) (Or.inr ⟨by kernel_rfl, rfl⟩) (by assumption) ?ar16
              (try simp only [Act.put])
              (try simp only [List.setIfInBounds_toArray])
              (try simp only [List.set_cons_succ])
              (try simp only [List.set_cons_zero])
              refine wpAnyH_take (i := 17) (oi := { dst := some 83, op := Op.call { callee := Callee.value (Operand.func 18), args := #[Operand.tmp 81, Operand.tmp 82], argTypes := #[28, 28] }, type := 4, pos := "law.go:117", after := #[{ on := 15, ground := Ground.data }, { on := 16, ground := Ground.data }, { on := 14, ground := Ground.chain }, { on := 14, ground := Ground.guard }], guard := some (14, true) }) (v := undef) rfl (by kernel_rfl) (by kernel_rfl) (by kernel_rfl) (fun _ _ _ h => h) (Or.inr ⟨by kernel_rfl, rfl⟩) (by assumption) ?ar17
              (try simp only [Act.put])
              (try simp only [List.setIfInBounds_toArray])
              (try simp only [List.set_cons_succ])
              (try simp only [List.set_cons_zero])
              refine wpAnyH_take (i := 18) (oi := { dst := some 84, op := Op.load 28 (Operand.tmp 9), type := 28, pos := "law.go:117", after := #[{ on := 14, ground := Ground.guard }], guard := some (14, true) }) (v := undef) rfl (by kernel_rfl) (by kernel_rfl) (by kernel_rfl) (fun _ _ _ h => h) (Or.inr ⟨by kernel_rfl, rfl⟩) (by assumption) ?ar18
              (try simp only [Act.put])
              (try simp only [List.setIfInBounds_toArray])
              (try simp only [List.set_cons_succ])
              (try simp only [List.set_cons_zero])
              refine wpAnyH_take (i := 19) (oi := { dst := some 85, op := Op.load 28 (Operand.tmp 11), type := 28, pos := "law.go:117", after := #[{ on := 14, ground := Ground.guard }], guard := some (14, true) }) (v := undef) rfl (by kernel_rfl) (by kernel_rfl) (by kernel_rfl) (fun _ _ _ h => h) (Or.inr ⟨by kernel_rfl, rfl⟩) (by assumption) ?ar19
              (try simp only [Act.put])
              (try simp only [List.setIfInBounds_toArray])
              (try simp only [List.set_cons_succ])
              (try simp only [List.set_cons_zero])
              refine wpAnyH_take (i := 20) (oi := { dst := some 86, op := Op.call { callee := Callee.value (Operand.func 22), args := #[Operand.tmp 84, Operand.tmp 85], argTypes := #[28, 28] }, type := 4, pos := "law.go:117", after := #[{ on := 18, ground := Ground.data }, { on := 19, ground := Ground.data }, { on := 17, ground := Ground.chain }, { on := 14, ground := Ground.guard }], guard := some (14, true) }) (v := undef) rfl (by kernel_rfl) (by kernel_rfl) (by kernel_rfl) (fun _ _ _ h => h) (Or.inr ⟨by kernel_rfl, rfl⟩) (by assumption) ?ar20
              (try simp only [Act.put])
              (try simp only [List.setIfInBounds_toArray])
              (try simp only [List.set_cons_succ])
              (try simp only [List.set_cons_zero])
              refine wpAnyH_take (i := 21) (oi := { dst := some 87, op := Op.binOp BinOp.neq 4 (Operand.tmp 83) (Operand.tmp 86) 4, type := 4, pos := "law.go:117", after := #[{ on := 17, ground := Ground.data }, { on := 20, ground := Ground.data }, { on := 14, ground := Ground.guard }], guard := some (14, true) }) (v := undef) rfl (by kernel_rfl) (by kernel_rfl) (by kernel_rfl) (fun _ _ _ h => h) (Or.inr ⟨by kernel_rfl, rfl⟩) (by assumption) ?ar21
              (try simp only [Act.put])
              (try simp only [List.setIfInBounds_toArray])
              (try simp only [List.set_cons_succ])
              (try simp only [List.set_cons_zero])
              refine wpAnyH_take (i := 22) (oi := { dst := some 88, op := Op.pick (Operand.tmp 80) (Operand.tmp 87) (Operand.const (Value.bool false)), type := 4, pos := "law.go:117", after := #[{ on := 14, ground := Ground.data }, { on := 21, ground := Ground.data }, { on := 10, ground := Ground.guard }], guard := some (10, false) }) (v := ?av22) rfl (by kernel_rfl) (by kernel_rfl) (by kernel_rfl) (fun _ _ _ h => h) (Or.inl ⟨by rfl, ?ay22⟩) (by assumption) ?ar22
              case ay22 => (intro w hSw; (try dsimp only at hSw); go_simp; try with_reducible rfl)
              (try simp only [Act.put])
              (try simp only [List.setIfInBounds_toArray])
              (try simp only [List.set_cons_succ])
              (try simp only [List.set_cons_zero])
              refine wpAnyH_take (i := 23) (oi := { dst := some 89, op := Op.pick (Operand.tmp 76) (Operand.const (Value.bool true)) (Operand.tmp 88), type := 4, pos := "law.go:117", after := #[{ on := 10, ground := Ground.data }, { on := 22, ground := Ground.data }], guard := none }) (v := ?av23) rfl (by kernel_rfl) (by kernel_rfl) (by kernel_rfl) (fun _ _ _ h => h) (Or.inl ⟨by rfl, ?ay23⟩) (by assumption) ?ar23
              case ay23 => (intro w hSw; (try dsimp only at hSw); go_simp; try with_reducible rfl)
              (try simp only [Act.put])
              (try simp only [List.setIfInBounds_toArray])
              (try simp only [List.set_cons_succ])
              (try simp only [List.set_cons_zero])
              refine wpAnyH_done (by kernel_rfl) ?_ _
              go_wp2_with fail
              clear A3
              obtain ⟨u, hu⟩ : ∃ u, atL (joinL mx my) x = u := ⟨_, rfl⟩
              obtain ⟨z, hz⟩ : ∃ z, atL my x = z := ⟨_, rfl⟩
              clear hj
              have CV := Lib.hid hz
              have CU := Lib.hid hu
              clear hu hz
              by_cases huz : u = z
              · skip
                subst huz
                have A1' := Lib.hid (A1.out.below (Below.refl _ _).drew)
                have A2' := Lib.hid (A2.out.below (Below.refl _ _).drew)
                have C0' := Lib.hid (C0.out.below (Below.refl _ _).drew)
                have BB' := Lib.hid (BB.out.drew)
                clear A1
                have A1 := A1'
                clear A1'
                clear A2
                have A2 := A2'
                clear A2'
                clear C0
                have C0 := C0'
                clear C0'
                clear BB
                have BB := BB'
                clear BB'
                refine wp_region_held_drew (S := fun w' => w'.cell? ⟨b1, 0, none⟩ = some (.map p1) ∧ w'.cell? ⟨b2, 0, none⟩ = some (.map p2) ∧ w'.cell? ⟨sb, off, none⟩ = some (.int .i64 x)) (by kernel_rfl) ⟨A1.out.cell, A2.out.cell, C0.out.c1⟩ (fun hHeld => ?_)
                refine wpAnyH_take (i := 0) (oi := { dst := some 90, op := Op.load 28 (Operand.tmp 9), type := 28, pos := "law.go:120", after := #[], guard := none }) (v := ?bv0) rfl (by kernel_rfl) (by kernel_rfl) (by kernel_rfl) (fun _ _ _ h => h) (Or.inl ⟨by rfl, ?by0⟩) (by assumption) ?br0
                case by0 => (intro w hSw; (try dsimp only at hSw); go_simp; try with_reducible rfl)
                (try simp only [Act.put])
                (try simp only [List.setIfInBounds_toArray])
                (try simp only [List.set_cons_succ])
                (try simp only [List.set_cons_zero])
                refine wpAnyH_take (i := 1) (oi := { dst := some 91, op := Op.load 28 (Operand.tmp 11), type := 28, pos := "law.go:120", after := #[], guard := none }) (v := ?bv1) rfl (by kernel_rfl) (by kernel_rfl) (by kernel_rfl) (fun _ _ _ h => h) (Or.inl ⟨by rfl, ?by1⟩) (by assumption) ?br1
                case by1 => (intro w hSw; (try dsimp only at hSw); go_simp; try with_reducible rfl)
                (try simp only [Act.put])
                (try simp only [List.setIfInBounds_toArray])
                (try simp only [List.set_cons_succ])
                (try simp only [List.set_cons_zero])
                refine wpAnyH_take (i := 3) (oi := { dst := some 93, op := Op.load 28 (Operand.tmp 9), type := 28, pos := "law.go:120", after := #[], guard := none }) (v := ?bv3) rfl (by kernel_rfl) (by kernel_rfl) (by kernel_rfl) (fun _ _ _ h => h) (Or.inl ⟨by rfl, ?by3⟩) (by assumption) ?br3
                case by3 => (intro w hSw; (try dsimp only at hSw); go_simp; try with_reducible rfl)
                (try simp only [Act.put])
                (try simp only [List.setIfInBounds_toArray])
                (try simp only [List.set_cons_succ])
                (try simp only [List.set_cons_zero])
                refine wpAnyH_take (i := 4) (oi := { dst := some 94, op := Op.load 28 (Operand.tmp 11), type := 28, pos := "law.go:120", after := #[], guard := none }) (v := ?bv4) rfl (by kernel_rfl) (by kernel_rfl) (by kernel_rfl) (fun _ _ _ h => h) (Or.inl ⟨by rfl, ?by4⟩) (by assumption) ?br4
                case by4 => (intro w hSw; (try dsimp only at hSw); go_simp; try with_reducible rfl)
                (try simp only [Act.put])
                (try simp only [List.setIfInBounds_toArray])
                (try simp only [List.set_cons_succ])
                (try simp only [List.set_cons_zero])
                refine wpAnyH_take (i := 6) (oi := { dst := some 96, op := Op.move (Operand.tmp 0), type := 22, pos := "law.go:120", after := #[], guard := none }) (v := ?bv6) rfl (by kernel_rfl) (by kernel_rfl) (by kernel_rfl) (fun _ _ _ h => h) (Or.inl ⟨by rfl, ?by6⟩) (by assumption) ?br6
                case by6 => (intro w hSw; (try dsimp only at hSw); go_simp; try with_reducible rfl)
                (try simp only [Act.put])
                (try simp only [List.setIfInBounds_toArray])
                (try simp only [List.set_cons_succ])
                (try simp only [List.set_cons_zero])
                refine wpAnyH_take (i := 7) (oi := { dst := some 97, op := Op.indexAddr 22 (Operand.tmp 96) (Operand.const (Value.int IntKind.i64 0)), type := 0, pos := "law.go:120", after := #[{ on := 6, ground := Ground.data }], guard := none }) (v := ?bv7) rfl (by kernel_rfl) (by kernel_rfl) (by kernel_rfl) (fun _ _ _ h => h) (Or.inl ⟨by rfl, ?by7⟩) (by assumption) ?br7
                case by7 => (intro w hSw; (try dsimp only at hSw); go_simp; try with_reducible rfl)
                (try simp only [Act.put])
                (try simp only [List.setIfInBounds_toArray])
                (try simp only [List.set_cons_succ])
                (try simp only [List.set_cons_zero])
                refine wpAnyH_take (i := 8) (oi := { dst := some 98, op := Op.fieldAddr 37 (Operand.tmp 97) 0, type := 0, pos := "law.go:120", after := #[{ on := 7, ground := Ground.data }], guard := none }) (v := ?bv8) rfl (by kernel_rfl) (by kernel_rfl) (by kernel_rfl) (fun _ _ _ h => h) (Or.inl ⟨by rfl, ?by8⟩) (by assumption) ?br8
                case by8 => (intro w hSw; (try dsimp only at hSw); go_simp; try with_reducible rfl)
                (try simp only [Act.put])
                (try simp only [List.setIfInBounds_toArray])
                (try simp only [List.set_cons_succ])
                (try simp only [List.set_cons_zero])
                refine wpAnyH_take (i := 9) (oi := { dst := some 99, op := Op.load 23 (Operand.tmp 98), type := 23, pos := "law.go:120", after := #[{ on := 8, ground := Ground.data }], guard := none }) (v := ?bv9) rfl (by kernel_rfl) (by kernel_rfl) (by kernel_rfl) (fun _ _ _ h => h) (Or.inl ⟨by rfl, ?by9⟩) (by assumption) ?br9
                case by9 => (intro w hSw; (try dsimp only at hSw); go_simp; try with_reducible rfl)
                (try simp only [Act.put])
                (try simp only [List.setIfInBounds_toArray])
                (try simp only [List.set_cons_succ])
                (try simp only [List.set_cons_zero])
                refine wpAnyH_take (i := 11) (oi := { dst := some 101, op := Op.load 28 (Operand.tmp 11), type := 28, pos := "law.go:120", after := #[], guard := none }) (v := ?bv11) rfl (by kernel_rfl) (by kernel_rfl) (by kernel_rfl) (fun _ _ _ h => h) (Or.inl ⟨by rfl, ?by11⟩) (by assumption) ?br11
                case by11 => (intro w hSw; (try dsimp only at hSw); go_simp; try with_reducible rfl)
                (try simp only [Act.put])
                (try simp only [List.setIfInBounds_toArray])
                (try simp only [List.set_cons_succ])
                (try simp only [List.set_cons_zero])
                refine wpAnyH_take (i := 12) (oi := { dst := some 102, op := Op.move (Operand.tmp 0), type := 22, pos := "law.go:120", after := #[], guard := none }) (v := ?bv12) rfl (by kernel_rfl) (by kernel_rfl) (by kernel_rfl) (fun _ _ _ h => h) (Or.inl ⟨by rfl, ?by12⟩) (by assumption) ?br12
                case by12 => (intro w hSw; (try dsimp only at hSw); go_simp; try with_reducible rfl)
                (try simp only [Act.put])
                (try simp only [List.setIfInBounds_toArray])
                (try simp only [List.set_cons_succ])
                (try simp only [List.set_cons_zero])
                refine wpAnyH_take (i := 13) (oi := { dst := some 103, op := Op.indexAddr 22 (Operand.tmp 102) (Operand.const (Value.int IntKind.i64 0)), type := 0, pos := "law.go:120", after := #[{ on := 12, ground := Ground.data }], guard := none }) (v := ?bv13) rfl (by kernel_rfl) (by kernel_rfl) (by kernel_rfl) (fun _ _ _ h => h) (Or.inl ⟨by rfl, ?by13⟩) (by assumption) ?br13
                case by13 => (intro w hSw; (try dsimp only at hSw); go_simp; try with_reducible rfl)
                (try simp only [Act.put])
                (try simp only [List.setIfInBounds_toArray])
                (try simp only [List.set_cons_succ])
                (try simp only [List.set_cons_zero])
                refine wpAnyH_take (i := 14) (oi := { dst := some 104, op := Op.fieldAddr 37 (Operand.tmp 103) 0, type := 0, pos := "law.go:120", after := #[{ on := 13, ground := Ground.data }], guard := none }) (v := ?bv14) rfl (by kernel_rfl) (by kernel_rfl) (by kernel_rfl) (fun _ _ _ h => h) (Or.inl ⟨by rfl, ?by14⟩) (by assumption) ?br14
                case by14 => (intro w hSw; (try dsimp only at hSw); go_simp; try with_reducible rfl)
                (try simp only [Act.put])
                (try simp only [List.setIfInBounds_toArray])
                (try simp only [List.set_cons_succ])
                (try simp only [List.set_cons_zero])
                refine wpAnyH_take (i := 15) (oi := { dst := some 105, op := Op.load 23 (Operand.tmp 104), type := 23, pos := "law.go:120", after := #[{ on := 14, ground := Ground.data }], guard := none }) (v := ?bv15) rfl (by kernel_rfl) (by kernel_rfl) (by kernel_rfl) (fun _ _ _ h => h) (Or.inl ⟨by rfl, ?by15⟩) (by assumption) ?br15
                case by15 => (intro w hSw; (try dsimp only at hSw); go_simp; try with_reducible rfl)
                (try simp only [Act.put])
                (try simp only [List.setIfInBounds_toArray])
                (try simp only [List.set_cons_succ])
                (try simp only [List.set_cons_zero])
                refine wpAnyH_ready (rs := [2]) (by kernel_rfl) (by simp) ?_
                refine AllReadyH.cons (o := { dst := some 92, op := Op.call { callee := Callee.value (Operand.func 22), args := #[Operand.tmp 90, Operand.tmp 91], argTypes := #[28, 28] }, type := 4, pos := "law.go:120", after := #[{ on := 0, ground := Ground.data }, { on := 1, ground := Ground.data }], guard := none }) rfl (fun K hK => ?_) AllReadyH.nil
                go_simp
                go_at_call 22
                refine (same_is (HS.out false rfl) A1.out.v A2.out.v).mono ?_
                rintro e wn ⟨rfl, hb⟩
                have A1' := Lib.hid (A1.out.below hb)
                have A2' := Lib.hid (A2.out.below hb)
                have C0' := Lib.hid (C0.out.below hb)
                have BB' := Lib.hid (BB.out.trans (hb.mono BB.out.size))
                clear A1
                have A1 := A1'
                clear A1'
                clear A2
                have A2 := A2'
                clear A2'
                clear C0
                have C0 := C0'
                clear C0'
                clear BB
                have BB := BB'
                clear BB'
                clear hb
                go_simp
                refine hK.out _ _ ?_ (fun hHeld => ?_)
                · exact ⟨A1.out.cell, A2.out.cell, C0.out.c1⟩
                clear hK K
                (try simp only [Act.put])
                (try simp only [List.setIfInBounds_toArray])
                (try simp only [List.set_cons_succ])
                (try simp only [List.set_cons_zero])
                refine wpAnyH_ready (rs := [5]) (by kernel_rfl) (by simp) ?_
                refine AllReadyH.cons (o := { dst := some 95, op := Op.call { callee := Callee.value (Operand.func 20), args := #[Operand.tmp 93, Operand.tmp 94], argTypes := #[28, 28] }, type := 28, pos := "law.go:120", after := #[{ on := 3, ground := Ground.data }, { on := 4, ground := Ground.data }, { on := 2, ground := Ground.chain }], guard := none }) rfl (fun K hK => ?_) AllReadyH.nil
                go_simp
                go_at_call 20
                refine (join_any _ _ _ _ _ A1.out.v A2.out.v).mono ?_
                rintro e wn ⟨q, hq, rfl, va, hb⟩
                have A1' := Lib.hid (A1.out.below hb)
                have A2' := Lib.hid (A2.out.below hb)
                have C0' := Lib.hid (C0.out.below hb)
                have BB' := Lib.hid (BB.out.trans (hb.mono BB.out.size))
                clear A1
                have A1 := A1'
                clear A1'
                clear A2
                have A2 := A2'
                clear A2'
                clear C0
                have C0 := C0'
                clear C0'
                clear BB
                have BB := BB'
                clear BB'
                clear hb
                clear hq
                have VJ := Lib.hid va
                clear va
                go_simp
                refine hK.out _ _ ?_ (fun hHeld => ?_)
                · exact ⟨A1.out.cell, A2.out.cell, C0.out.c1⟩
                clear hK K
                (try simp only [Act.put])
                (try simp only [List.setIfInBounds_toArray])
                (try simp only [List.set_cons_succ])
                (try simp only [List.set_cons_zero])
                refine wpAnyH_ready (rs := [10]) (by kernel_rfl) (by simp) ?_
                refine AllReadyH.cons (o := { dst := some 100, op := Op.call { callee := Callee.value (Operand.func 14), args := #[Operand.tmp 95, Operand.tmp 99], argTypes := #[28, 23] }, type := 3, pos := "law.go:120", after := #[{ on := 5, ground := Ground.data }, { on := 9, ground := Ground.data }, { on := 5, ground := Ground.chain }], guard := none }) rfl (fun K hK => ?_) AllReadyH.nil
                go_simp
                go_at_call 14
                refine (at_isB x0 x1 CU.out VJ.out).mono ?_
                rintro e wn ⟨rfl, hb⟩
                have A1' := Lib.hid (A1.out.below hb)
                have A2' := Lib.hid (A2.out.below hb)
                have C0' := Lib.hid (C0.out.below hb)
                have VJ' := Lib.hid (VJ.out.below hb)
                have BB' := Lib.hid (BB.out.trans (hb.mono BB.out.size))
                clear A1
                have A1 := A1'
                clear A1'
                clear A2
                have A2 := A2'
                clear A2'
                clear C0
                have C0 := C0'
                clear C0'
                clear VJ
                have VJ := VJ'
                clear VJ'
                clear BB
                have BB := BB'
                clear BB'
                clear hb
                go_simp
                refine hK.out _ _ ?_ (fun hHeld => ?_)
                · exact ⟨A1.out.cell, A2.out.cell, C0.out.c1⟩
                clear hK K
                (try simp only [Act.put])
                (try simp only [List.setIfInBounds_toArray])
                (try simp only [List.set_cons_succ])
                (try simp only [List.set_cons_zero])
                refine wpAnyH_ready (rs := [16]) (by kernel_rfl) (by simp) ?_
                refine AllReadyH.cons (o := { dst := some 106, op := Op.call { callee := Callee.value (Operand.func 14), args := #[Operand.tmp 101, Operand.tmp 105], argTypes := #[28, 23] }, type := 3, pos := "law.go:120", after := #[{ on := 11, ground := Ground.data }, { on := 15, ground := Ground.data }, { on := 10, ground := Ground.chain }], guard := none }) rfl (fun K hK => ?_) AllReadyH.nil
                go_simp
                go_at_call 14
                refine (at_isB x0 x1 CV.out A2.out.v).mono ?_
                rintro e wn ⟨rfl, hb⟩
                have A1' := Lib.hid (A1.out.below hb)
                have A2' := Lib.hid (A2.out.below hb)
                have C0' := Lib.hid (C0.out.below hb)
                have VJ' := Lib.hid (VJ.out.below hb)
                have BB' := Lib.hid (BB.out.trans (hb.mono BB.out.size))
                clear A1
                have A1 := A1'
                clear A1'
                clear A2
                have A2 := A2'
                clear A2'
                clear C0
                have C0 := C0'
                clear C0'
                clear VJ
                have VJ := VJ'
                clear VJ'
                clear BB
                have BB := BB'
                clear BB'
                clear hb
                go_simp
                refine hK.out _ _ ?_ (fun hHeld => ?_)
                · exact ⟨A1.out.cell, A2.out.cell, C0.out.c1⟩
                clear hK K
                (try simp only [Act.put])
                (try simp only [List.setIfInBounds_toArray])
                (try simp only [List.set_cons_succ])
                (try simp only [List.set_cons_zero])
                refine wpAnyH_take (i := 17) (oi := { dst := some 107, op := Op.binOp BinOp.eql 3 (Operand.tmp 100) (Operand.tmp 106) 3, type := 4, pos := "law.go:120", after := #[{ on := 10, ground := Ground.data }, { on := 16, ground := Ground.data }], guard := none }) (v := ?bv17) rfl (by kernel_rfl) (by kernel_rfl) (by kernel_rfl) (fun _ _ _ h => h) (Or.inl ⟨by rfl, ?by17⟩) (by assumption) ?br17
                case by17 => (intro w hSw; (try dsimp only at hSw); go_simp; try with_reducible rfl)
                (try simp only [Act.put])
                (try simp only [List.setIfInBounds_toArray])
                (try simp only [List.set_cons_succ])
                (try simp only [List.set_cons_zero])
                refine wpAnyH_take (i := 18) (oi := { dst := some 108, op := Op.move (Operand.tmp 107), type := 4, pos := "law.go:120", after := #[{ on := 17, ground := Ground.data }, { on := 16, ground := Ground.chain }], guard := none }) (v := ?bv18) rfl (by kernel_rfl) (by kernel_rfl) (by kernel_rfl) (fun _ _ _ h => h) (Or.inl ⟨by rfl, ?by18⟩) (by assumption) ?br18
                case by18 => (intro w hSw; (try dsimp only at hSw); go_simp; try with_reducible rfl)
                (try simp only [Act.put])
                (try simp only [List.setIfInBounds_toArray])
                (try simp only [List.set_cons_succ])
                (try simp only [List.set_cons_zero])
                refine wpAnyH_take (i := 19) (oi := { dst := some 109, op := Op.load 28 (Operand.tmp 9), type := 28, pos := "law.go:120", after := #[{ on := 18, ground := Ground.guard }], guard := some (18, true) }) (v := ?bv19) rfl (by kernel_rfl) (by kernel_rfl) (by kernel_rfl) (fun _ _ _ h => h) (Or.inl ⟨by rfl, ?by19⟩) (by assumption) ?br19
                case by19 => (intro w hSw; (try dsimp only at hSw); go_simp; try with_reducible rfl)
                (try simp only [Act.put])
                (try simp only [List.setIfInBounds_toArray])
                (try simp only [List.set_cons_succ])
                (try simp only [List.set_cons_zero])
                refine wpAnyH_take (i := 20) (oi := { dst := some 110, op := Op.load 28 (Operand.tmp 11), type := 28, pos := "law.go:120", after := #[{ on := 18, ground := Ground.guard }], guard := some (18, true) }) (v := ?bv20) rfl (by kernel_rfl) (by kernel_rfl) (by kernel_rfl) (fun _ _ _ h => h) (Or.inl ⟨by rfl, ?by20⟩) (by assumption) ?br20
                case by20 => (intro w hSw; (try dsimp only at hSw); go_simp; try with_reducible rfl)
                (try simp only [Act.put])
                (try simp only [List.setIfInBounds_toArray])
                (try simp only [List.set_cons_succ])
                (try simp only [List.set_cons_zero])
                refine wpAnyH_ready (rs := [21]) (by kernel_rfl) (by simp) ?_
                refine AllReadyH.cons (o := { dst := some 111, op := Op.call { callee := Callee.value (Operand.func 18), args := #[Operand.tmp 109, Operand.tmp 110], argTypes := #[28, 28] }, type := 4, pos := "law.go:120", after := #[{ on := 19, ground := Ground.data }, { on := 20, ground := Ground.data }, { on := 18, ground := Ground.chain }, { on := 18, ground := Ground.guard }], guard := some (18, true) }) rfl (fun K hK => ?_) AllReadyH.nil
                go_simp
                go_at_call 18
                refine (below_is C1.out A1.out.v A2.out.v).mono ?_
                rintro e wn ⟨rfl, hb⟩
                have A1' := Lib.hid (A1.out.below hb)
                have A2' := Lib.hid (A2.out.below hb)
                have C0' := Lib.hid (C0.out.below hb)
                have VJ' := Lib.hid (VJ.out.below hb)
                have BB' := Lib.hid (BB.out.trans (hb.mono BB.out.size))
                clear A1
                have A1 := A1'
                clear A1'
                clear A2
                have A2 := A2'
                clear A2'
                clear C0
                have C0 := C0'
                clear C0'
                clear VJ
                have VJ := VJ'
                clear VJ'
                clear BB
                have BB := BB'
                clear BB'
                clear hb
                go_simp
                refine hK.out _ _ ?_ (fun hHeld => ?_)
                · exact ⟨A1.out.cell, A2.out.cell, C0.out.c1⟩
                clear hK K
                (try simp only [Act.put])
                (try simp only [List.setIfInBounds_toArray])
                (try simp only [List.set_cons_succ])
                (try simp only [List.set_cons_zero])
                refine wpAnyH_take (i := 22) (oi := { dst := some 112, op := Op.pick (Operand.tmp 108) (Operand.tmp 111) (Operand.const (Value.bool false)), type := 4, pos := "law.go:120", after := #[{ on := 18, ground := Ground.data }, { on := 21, ground := Ground.data }], guard := none }) (v := ?bv22) rfl (by kernel_rfl) (by kernel_rfl) (by kernel_rfl) (fun _ _ _ h => h) (Or.inl ⟨by rfl, ?by22⟩) (by assumption) ?br22
                case by22 => (intro w hSw; (try dsimp only at hSw); go_simp; try with_reducible rfl)
                (try simp only [Act.put])
                (try simp only [List.setIfInBounds_toArray])
                (try simp only [List.set_cons_succ])
                (try simp only [List.set_cons_zero])
                refine wpAnyH_take (i := 23) (oi := { dst := some 113, op := Op.move (Operand.tmp 112), type := 4, pos := "law.go:120", after := #[{ on := 22, ground := Ground.data }, { on := 21, ground := Ground.chain }], guard := none }) (v := ?bv23) rfl (by kernel_rfl) (by kernel_rfl) (by kernel_rfl) (fun _ _ _ h => h) (Or.inl ⟨by rfl, ?by23⟩) (by assumption) ?br23
                case by23 => (intro w hSw; (try dsimp only at hSw); go_simp; try with_reducible rfl)
                (try simp only [Act.put])
                (try simp only [List.setIfInBounds_toArray])
                (try simp only [List.set_cons_succ])
                (try simp only [List.set_cons_zero])
                refine wpAnyH_take (i := 24) (oi := { dst := some 114, op := Op.load 28 (Operand.tmp 11), type := 28, pos := "law.go:120", after := #[{ on := 23, ground := Ground.guard }], guard := some (23, true) }) (v := undef) rfl (by kernel_rfl) (by kernel_rfl) (by kernel_rfl) (fun _ _ _ h => h) (Or.inr ⟨by kernel_rfl, rfl⟩) (by assumption) ?br24
                (try simp only [Act.put])
                (try simp only [List.setIfInBounds_toArray])
                (try simp only [List.set_cons_succ])
                (try simp only [List.set_cons_zero])
                refine wpAnyH_take (i := 25) (oi := { dst := some 115, op := Op.load 28 (Operand.tmp 9), type := 28, pos := "law.go:120", after := #[{ on := 23, ground := Ground.guard }], guard := some (23, true) }) (v := undef) rfl (by kernel_rfl) (by kernel_rfl) (by kernel_rfl) (fun _ _ _ h => h) (Or.inr ⟨by kernel_rfl, rfl⟩) (by assumption) ?br25
                (try simp only [Act.put])
                (try simp only [List.setIfInBounds_toArray])
                (try simp only [List.set_cons_succ])
                (try simp only [List.set_cons_zero])
                refine wpAnyH_take (i := 26) (oi := { dst := some 116, op := Op.call { callee := Callee.value (Operand.func 18), args := #[Operand.tmp 114, Operand.tmp 115], argTypes := #[28, 28] }, type := 4, pos := "law.go:120", after := #[{ on := 24, ground := Ground.data }, { on := 25, ground := Ground.data }, { on := 23, ground := Ground.chain }, { on := 23, ground := Ground.guard }], guard := some (23, true) }) (v := undef) rfl (by kernel_rfl) (by kernel_rfl) (by kernel_rfl) (fun _ _ _ h => h) (Or.inr ⟨by kernel_rfl, rfl⟩) (by assumption) ?br26
                (try simp only [Act.put])
                (try simp only [List.setIfInBounds_toArray])
                (try simp only [List.set_cons_succ])
                (try simp only [List.set_cons_zero])
                refine wpAnyH_take (i := 27) (oi := { dst := some 117, op := Op.pick (Operand.tmp 113) (Operand.tmp 116) (Operand.const (Value.bool false)), type := 4, pos := "law.go:120", after := #[{ on := 23, ground := Ground.data }, { on := 26, ground := Ground.data }], guard := none }) (v := ?bv27) rfl (by kernel_rfl) (by kernel_rfl) (by kernel_rfl) (fun _ _ _ h => h) (Or.inl ⟨by rfl, ?by27⟩) (by assumption) ?br27
                case by27 => (intro w hSw; (try dsimp only at hSw); go_simp; try with_reducible rfl)
                (try simp only [Act.put])
                (try simp only [List.setIfInBounds_toArray])
                (try simp only [List.set_cons_succ])
                (try simp only [List.set_cons_zero])
                refine wpAnyH_take (i := 28) (oi := { dst := some 118, op := Op.binOp BinOp.eql 4 (Operand.tmp 92) (Operand.tmp 117) 4, type := 4, pos := "law.go:120", after := #[{ on := 2, ground := Ground.data }, { on := 27, ground := Ground.data }], guard := none }) (v := ?bv28) rfl (by kernel_rfl) (by kernel_rfl) (by kernel_rfl) (fun _ _ _ h => h) (Or.inl ⟨by rfl, ?by28⟩) (by assumption) ?br28
                case by28 => (intro w hSw; (try dsimp only at hSw); go_simp; try with_reducible rfl)
                (try simp only [Act.put])
                (try simp only [List.setIfInBounds_toArray])
                (try simp only [List.set_cons_succ])
                (try simp only [List.set_cons_zero])
                refine wpAnyH_take (i := 29) (oi := { dst := some 119, op := Op.move (Operand.tmp 118), type := 4, pos := "law.go:120", after := #[{ on := 28, ground := Ground.data }, { on := 26, ground := Ground.chain }], guard := none }) (v := ?bv29) rfl (by kernel_rfl) (by kernel_rfl) (by kernel_rfl) (fun _ _ _ h => h) (Or.inl ⟨by rfl, ?by29⟩) (by assumption) ?br29
                case by29 => (intro w hSw; (try dsimp only at hSw); go_simp; try with_reducible rfl)
                (try simp only [Act.put])
                (try simp only [List.setIfInBounds_toArray])
                (try simp only [List.set_cons_succ])
                (try simp only [List.set_cons_zero])
                refine wpAnyH_ready (rs := [30]) (by kernel_rfl) (by simp) ?_
                refine AllReadyH.cons (o := { dst := some 120, op := Op.call { callee := Callee.value (Operand.func 11), args := #[], argTypes := #[] }, type := 4, pos := "law.go:120", after := #[{ on := 29, ground := Ground.chain }, { on := 29, ground := Ground.guard }], guard := some (29, true) }) rfl (fun K hK => ?_) AllReadyH.nil
                go_simp
                go_at_call 11
                refine (awake_any _).mono ?_
                rintro e wn ⟨rfl, hb⟩
                have A1' := Lib.hid (A1.out.below hb)
                have A2' := Lib.hid (A2.out.below hb)
                have C0' := Lib.hid (C0.out.below hb)
                have VJ' := Lib.hid (VJ.out.below hb)
                have BB' := Lib.hid (BB.out.trans (hb.mono BB.out.size))
                clear A1
                have A1 := A1'
                clear A1'
                clear A2
                have A2 := A2'
                clear A2'
                clear C0
                have C0 := C0'
                clear C0'
                clear VJ
                have VJ := VJ'
                clear VJ'
                clear BB
                have BB := BB'
                clear BB'
                clear hb
                go_simp
                refine hK.out _ _ ?_ (fun hHeld => ?_)
                · exact ⟨A1.out.cell, A2.out.cell, C0.out.c1⟩
                clear hK K
                (try simp only [Act.put])
                (try simp only [List.setIfInBounds_toArray])
                (try simp only [List.set_cons_succ])
                (try simp only [List.set_cons_zero])
                refine wpAnyH_take (i := 31) (oi := { dst := some 121, op := Op.pick (Operand.tmp 119) (Operand.tmp 120) (Operand.const (Value.bool false)), type := 4, pos := "law.go:120", after := #[{ on := 29, ground := Ground.data }, { on := 30, ground := Ground.data }], guard := none }) (v := ?bv31) rfl (by kernel_rfl) (by kernel_rfl) (by kernel_rfl) (fun _ _ _ h => h) (Or.inl ⟨by rfl, ?by31⟩) (by assumption) ?br31
                case by31 => (intro w hSw; (try dsimp only at hSw); go_simp; try with_reducible rfl)
                (try simp only [Act.put])
                (try simp only [List.setIfInBounds_toArray])
                (try simp only [List.set_cons_succ])
                (try simp only [List.set_cons_zero])
                refine wpAnyH_ready (rs := [32]) (by kernel_rfl) (by simp) ?_
                refine AllReadyH.cons (o := _) rfl (fun K hK => ?_) AllReadyH.nil
                go_simp
                refine hK.out _ _ ?_ (fun hHeld => ?_)
                · exact ⟨A1.out.cell, A2.out.cell, C0.out.c1⟩
                clear hK K
                (try simp only [Act.put])
                (try simp only [List.setIfInBounds_toArray])
                (try simp only [List.set_cons_succ])
                (try simp only [List.set_cons_zero])
                refine wpAnyH_done (by kernel_rfl) ?_ _
                go_wp2
                go_ret
                exact ⟨rfl, BB.out⟩
              · skip
                have huz' : (u == z) = false := beq_eq_false_iff_ne.2 huz
                clear huz
                have A1' := Lib.hid (A1.out.below (Below.refl _ _).drew)
                have A2' := Lib.hid (A2.out.below (Below.refl _ _).drew)
                have C0' := Lib.hid (C0.out.below (Below.refl _ _).drew)
                have BB' := Lib.hid (BB.out.drew)
                clear A1
                have A1 := A1'
                clear A1'
                clear A2
                have A2 := A2'
                clear A2'
                clear C0
                have C0 := C0'
                clear C0'
                clear BB
                have BB := BB'
                clear BB'
                refine wp_region_held_drew (S := fun w' => w'.cell? ⟨b1, 0, none⟩ = some (.map p1) ∧ w'.cell? ⟨b2, 0, none⟩ = some (.map p2) ∧ w'.cell? ⟨sb, off, none⟩ = some (.int .i64 x)) (by kernel_rfl) ⟨A1.out.cell, A2.out.cell, C0.out.c1⟩ (fun hHeld => ?_)
                refine wpAnyH_take (i := 0) (oi := { dst := some 90, op := Op.load 28 (Operand.tmp 9), type := 28, pos := "law.go:120", after := #[], guard := none }) (v := ?cv0) rfl (by kernel_rfl) (by kernel_rfl) (by kernel_rfl) (fun _ _ _ h => h) (Or.inl ⟨by rfl, ?cy0⟩) (by assumption) ?cr0
                case cy0 => (intro w hSw; (try dsimp only at hSw); go_simp; try with_reducible rfl)
                (try simp only [Act.put])
                (try simp only [List.setIfInBounds_toArray])
                (try simp only [List.set_cons_succ])
                (try simp only [List.set_cons_zero])
                refine wpAnyH_take (i := 1) (oi := { dst := some 91, op := Op.load 28 (Operand.tmp 11), type := 28, pos := "law.go:120", after := #[], guard := none }) (v := ?cv1) rfl (by kernel_rfl) (by kernel_rfl) (by kernel_rfl) (fun _ _ _ h => h) (Or.inl ⟨by rfl, ?cy1⟩) (by assumption) ?cr1
                case cy1 => (intro w hSw; (try dsimp only at hSw); go_simp; try with_reducible rfl)
                (try simp only [Act.put])
                (try simp only [List.setIfInBounds_toArray])
                (try simp only [List.set_cons_succ])
                (try simp only [List.set_cons_zero])
                refine wpAnyH_take (i := 3) (oi := { dst := some 93, op := Op.load 28 (Operand.tmp 9), type := 28, pos := "law.go:120", after := #[], guard := none }) (v := ?cv3) rfl (by kernel_rfl) (by kernel_rfl) (by kernel_rfl) (fun _ _ _ h => h) (Or.inl ⟨by rfl, ?cy3⟩) (by assumption) ?cr3
                case cy3 => (intro w hSw; (try dsimp only at hSw); go_simp; try with_reducible rfl)
                (try simp only [Act.put])
                (try simp only [List.setIfInBounds_toArray])
                (try simp only [List.set_cons_succ])
                (try simp only [List.set_cons_zero])
                refine wpAnyH_take (i := 4) (oi := { dst := some 94, op := Op.load 28 (Operand.tmp 11), type := 28, pos := "law.go:120", after := #[], guard := none }) (v := ?cv4) rfl (by kernel_rfl) (by kernel_rfl) (by kernel_rfl) (fun _ _ _ h => h) (Or.inl ⟨by rfl, ?cy4⟩) (by assumption) ?cr4
                case cy4 => (intro w hSw; (try dsimp only at hSw); go_simp; try with_reducible rfl)
                (try simp only [Act.put])
                (try simp only [List.setIfInBounds_toArray])
                (try simp only [List.set_cons_succ])
                (try simp only [List.set_cons_zero])
                refine wpAnyH_take (i := 6) (oi := { dst := some 96, op := Op.move (Operand.tmp 0), type := 22, pos := "law.go:120", after := #[], guard := none }) (v := ?cv6) rfl (by kernel_rfl) (by kernel_rfl) (by kernel_rfl) (fun _ _ _ h => h) (Or.inl ⟨by rfl, ?cy6⟩) (by assumption) ?cr6
                case cy6 => (intro w hSw; (try dsimp only at hSw); go_simp; try with_reducible rfl)
                (try simp only [Act.put])
                (try simp only [List.setIfInBounds_toArray])
                (try simp only [List.set_cons_succ])
                (try simp only [List.set_cons_zero])
                refine wpAnyH_take (i := 7) (oi := { dst := some 97, op := Op.indexAddr 22 (Operand.tmp 96) (Operand.const (Value.int IntKind.i64 0)), type := 0, pos := "law.go:120", after := #[{ on := 6, ground := Ground.data }], guard := none }) (v := ?cv7) rfl (by kernel_rfl) (by kernel_rfl) (by kernel_rfl) (fun _ _ _ h => h) (Or.inl ⟨by rfl, ?cy7⟩) (by assumption) ?cr7
                case cy7 => (intro w hSw; (try dsimp only at hSw); go_simp; try with_reducible rfl)
                (try simp only [Act.put])
                (try simp only [List.setIfInBounds_toArray])
                (try simp only [List.set_cons_succ])
                (try simp only [List.set_cons_zero])
                refine wpAnyH_take (i := 8) (oi := { dst := some 98, op := Op.fieldAddr 37 (Operand.tmp 97) 0, type := 0, pos := "law.go:120", after := #[{ on := 7, ground := Ground.data }], guard := none }) (v := ?cv8) rfl (by kernel_rfl) (by kernel_rfl) (by kernel_rfl) (fun _ _ _ h => h) (Or.inl ⟨by rfl, ?cy8⟩) (by assumption) ?cr8
                case cy8 => (intro w hSw; (try dsimp only at hSw); go_simp; try with_reducible rfl)
                (try simp only [Act.put])
                (try simp only [List.setIfInBounds_toArray])
                (try simp only [List.set_cons_succ])
                (try simp only [List.set_cons_zero])
                refine wpAnyH_take (i := 9) (oi := { dst := some 99, op := Op.load 23 (Operand.tmp 98), type := 23, pos := "law.go:120", after := #[{ on := 8, ground := Ground.data }], guard := none }) (v := ?cv9) rfl (by kernel_rfl) (by kernel_rfl) (by kernel_rfl) (fun _ _ _ h => h) (Or.inl ⟨by rfl, ?cy9⟩) (by assumption) ?cr9
                case cy9 => (intro w hSw; (try dsimp only at hSw); go_simp; try with_reducible rfl)
                (try simp only [Act.put])
                (try simp only [List.setIfInBounds_toArray])
                (try simp only [List.set_cons_succ])
                (try simp only [List.set_cons_zero])
                refine wpAnyH_take (i := 11) (oi := { dst := some 101, op := Op.load 28 (Operand.tmp 11), type := 28, pos := "law.go:120", after := #[], guard := none }) (v := ?cv11) rfl (by kernel_rfl) (by kernel_rfl) (by kernel_rfl) (fun _ _ _ h => h) (Or.inl ⟨by rfl, ?cy11⟩) (by assumption) ?cr11
                case cy11 => (intro w hSw; (try dsimp only at hSw); go_simp; try with_reducible rfl)
                (try simp only [Act.put])
                (try simp only [List.setIfInBounds_toArray])
                (try simp only [List.set_cons_succ])
                (try simp only [List.set_cons_zero])
                refine wpAnyH_take (i := 12) (oi := { dst := some 102, op := Op.move (Operand.tmp 0), type := 22, pos := "law.go:120", after := #[], guard := none }) (v := ?cv12) rfl (by kernel_rfl) (by kernel_rfl) (by kernel_rfl) (fun _ _ _ h => h) (Or.inl ⟨by rfl, ?cy12⟩) (by assumption) ?cr12
                case cy12 => (intro w hSw; (try dsimp only at hSw); go_simp; try with_reducible rfl)
                (try simp only [Act.put])
                (try simp only [List.setIfInBounds_toArray])
                (try simp only [List.set_cons_succ])
                (try simp only [List.set_cons_zero])
                refine wpAnyH_take (i := 13) (oi := { dst := some 103, op := Op.indexAddr 22 (Operand.tmp 102) (Operand.const (Value.int IntKind.i64 0)), type := 0, pos := "law.go:120", after := #[{ on := 12, ground := Ground.data }], guard := none }) (v := ?cv13) rfl (by kernel_rfl) (by kernel_rfl) (by kernel_rfl) (fun _ _ _ h => h) (Or.inl ⟨by rfl, ?cy13⟩) (by assumption) ?cr13
                case cy13 => (intro w hSw; (try dsimp only at hSw); go_simp; try with_reducible rfl)
                (try simp only [Act.put])
                (try simp only [List.setIfInBounds_toArray])
                (try simp only [List.set_cons_succ])
                (try simp only [List.set_cons_zero])
                refine wpAnyH_take (i := 14) (oi := { dst := some 104, op := Op.fieldAddr 37 (Operand.tmp 103) 0, type := 0, pos := "law.go:120", after := #[{ on := 13, ground := Ground.data }], guard := none }) (v := ?cv14) rfl (by kernel_rfl) (by kernel_rfl) (by kernel_rfl) (fun _ _ _ h => h) (Or.inl ⟨by rfl, ?cy14⟩) (by assumption) ?cr14
                case cy14 => (intro w hSw; (try dsimp only at hSw); go_simp; try with_reducible rfl)
                (try simp only [Act.put])
                (try simp only [List.setIfInBounds_toArray])
                (try simp only [List.set_cons_succ])
                (try simp only [List.set_cons_zero])
                refine wpAnyH_take (i := 15) (oi := { dst := some 105, op := Op.load 23 (Operand.tmp 104), type := 23, pos := "law.go:120", after := #[{ on := 14, ground := Ground.data }], guard := none }) (v := ?cv15) rfl (by kernel_rfl) (by kernel_rfl) (by kernel_rfl) (fun _ _ _ h => h) (Or.inl ⟨by rfl, ?cy15⟩) (by assumption) ?cr15
                case cy15 => (intro w hSw; (try dsimp only at hSw); go_simp; try with_reducible rfl)
                (try simp only [Act.put])
                (try simp only [List.setIfInBounds_toArray])
                (try simp only [List.set_cons_succ])
                (try simp only [List.set_cons_zero])
                refine wpAnyH_ready (rs := [2]) (by kernel_rfl) (by simp) ?_
                refine AllReadyH.cons (o := { dst := some 92, op := Op.call { callee := Callee.value (Operand.func 22), args := #[Operand.tmp 90, Operand.tmp 91], argTypes := #[28, 28] }, type := 4, pos := "law.go:120", after := #[{ on := 0, ground := Ground.data }, { on := 1, ground := Ground.data }], guard := none }) rfl (fun K hK => ?_) AllReadyH.nil
                go_simp
                go_at_call 22
                refine (same_is (HS.out false rfl) A1.out.v A2.out.v).mono ?_
                rintro e wn ⟨rfl, hb⟩
                have A1' := Lib.hid (A1.out.below hb)
                have A2' := Lib.hid (A2.out.below hb)
                have C0' := Lib.hid (C0.out.below hb)
                have BB' := Lib.hid (BB.out.trans (hb.mono BB.out.size))
                clear A1
                have A1 := A1'
                clear A1'
                clear A2
                have A2 := A2'
                clear A2'
                clear C0
                have C0 := C0'
                clear C0'
                clear BB
                have BB := BB'
                clear BB'
                clear hb
                go_simp
                refine hK.out _ _ ?_ (fun hHeld => ?_)
                · exact ⟨A1.out.cell, A2.out.cell, C0.out.c1⟩
                clear hK K
                (try simp only [Act.put])
                (try simp only [List.setIfInBounds_toArray])
                (try simp only [List.set_cons_succ])
                (try simp only [List.set_cons_zero])
                refine wpAnyH_ready (rs := [5]) (by kernel_rfl) (by simp) ?_
                refine AllReadyH.cons (o := { dst := some 95, op := Op.call { callee := Callee.value (Operand.func 20), args := #[Operand.tmp 93, Operand.tmp 94], argTypes := #[28, 28] }, type := 28, pos := "law.go:120", after := #[{ on := 3, ground := Ground.data }, { on := 4, ground := Ground.data }, { on := 2, ground := Ground.chain }], guard := none }) rfl (fun K hK => ?_) AllReadyH.nil
                go_simp
                go_at_call 20
                refine (join_any _ _ _ _ _ A1.out.v A2.out.v).mono ?_
                rintro e wn ⟨q, hq, rfl, va, hb⟩
                have A1' := Lib.hid (A1.out.below hb)
                have A2' := Lib.hid (A2.out.below hb)
                have C0' := Lib.hid (C0.out.below hb)
                have BB' := Lib.hid (BB.out.trans (hb.mono BB.out.size))
                clear A1
                have A1 := A1'
                clear A1'
                clear A2
                have A2 := A2'
                clear A2'
                clear C0
                have C0 := C0'
                clear C0'
                clear BB
                have BB := BB'
                clear BB'
                clear hb
                clear hq
                have VJ := Lib.hid va
                clear va
                go_simp
                refine hK.out _ _ ?_ (fun hHeld => ?_)
                · exact ⟨A1.out.cell, A2.out.cell, C0.out.c1⟩
                clear hK K
                (try simp only [Act.put])
                (try simp only [List.setIfInBounds_toArray])
                (try simp only [List.set_cons_succ])
                (try simp only [List.set_cons_zero])
                refine wpAnyH_ready (rs := [10]) (by kernel_rfl) (by simp) ?_
                refine AllReadyH.cons (o := { dst := some 100, op := Op.call { callee := Callee.value (Operand.func 14), args := #[Operand.tmp 95, Operand.tmp 99], argTypes := #[28, 23] }, type := 3, pos := "law.go:120", after := #[{ on := 5, ground := Ground.data }, { on := 9, ground := Ground.data }, { on := 5, ground := Ground.chain }], guard := none }) rfl (fun K hK => ?_) AllReadyH.nil
                go_simp
                go_at_call 14
                refine (at_isB x0 x1 CU.out VJ.out).mono ?_
                rintro e wn ⟨rfl, hb⟩
                have A1' := Lib.hid (A1.out.below hb)
                have A2' := Lib.hid (A2.out.below hb)
                have C0' := Lib.hid (C0.out.below hb)
                have VJ' := Lib.hid (VJ.out.below hb)
                have BB' := Lib.hid (BB.out.trans (hb.mono BB.out.size))
                clear A1
                have A1 := A1'
                clear A1'
                clear A2
                have A2 := A2'
                clear A2'
                clear C0
                have C0 := C0'
                clear C0'
                clear VJ
                have VJ := VJ'
                clear VJ'
                clear BB
                have BB := BB'
                clear BB'
                clear hb
                go_simp
                refine hK.out _ _ ?_ (fun hHeld => ?_)
                · exact ⟨A1.out.cell, A2.out.cell, C0.out.c1⟩
                clear hK K
                (try simp only [Act.put])
                (try simp only [List.setIfInBounds_toArray])
                (try simp only [List.set_cons_succ])
                (try simp only [List.set_cons_zero])
                refine wpAnyH_ready (rs := [16]) (by kernel_rfl) (by simp) ?_
                refine AllReadyH.cons (o := { dst := some 106, op := Op.call { callee := Callee.value (Operand.func 14), args := #[Operand.tmp 101, Operand.tmp 105], argTypes := #[28, 23] }, type := 3, pos := "law.go:120", after := #[{ on := 11, ground := Ground.data }, { on := 15, ground := Ground.data }, { on := 10, ground := Ground.chain }], guard := none }) rfl (fun K hK => ?_) AllReadyH.nil
                go_simp
                go_at_call 14
                refine (at_isB x0 x1 CV.out A2.out.v).mono ?_
                rintro e wn ⟨rfl, hb⟩
                have A1' := Lib.hid (A1.out.below hb)
                have A2' := Lib.hid (A2.out.below hb)
                have C0' := Lib.hid (C0.out.below hb)
                have VJ' := Lib.hid (VJ.out.below hb)
                have BB' := Lib.hid (BB.out.trans (hb.mono BB.out.size))
                clear A1
                have A1 := A1'
                clear A1'
                clear A2
                have A2 := A2'
                clear A2'
                clear C0
                have C0 := C0'
                clear C0'
                clear VJ
                have VJ := VJ'
                clear VJ'
                clear BB
                have BB := BB'
                clear BB'
                clear hb
                go_simp
                refine hK.out _ _ ?_ (fun hHeld => ?_)
                · exact ⟨A1.out.cell, A2.out.cell, C0.out.c1⟩
                clear hK K
                (try simp only [Act.put])
                (try simp only [List.setIfInBounds_toArray])
                (try simp only [List.set_cons_succ])
                (try simp only [List.set_cons_zero])
                refine wpAnyH_take (i := 17) (oi := { dst := some 107, op := Op.binOp BinOp.eql 3 (Operand.tmp 100) (Operand.tmp 106) 3, type := 4, pos := "law.go:120", after := #[{ on := 10, ground := Ground.data }, { on := 16, ground := Ground.data }], guard := none }) (v := ?cv17) rfl (by kernel_rfl) (by kernel_rfl) (by kernel_rfl) (fun _ _ _ h => h) (Or.inl ⟨by rfl, ?cy17⟩) (by assumption) ?cr17
                case cy17 => (intro w hSw; (try dsimp only at hSw); go_simp; try with_reducible rfl)
                (try simp only [Act.put])
                (try simp only [List.setIfInBounds_toArray])
                (try simp only [List.set_cons_succ])
                (try simp only [List.set_cons_zero])
                refine wpAnyH_take (i := 18) (oi := { dst := some 108, op := Op.move (Operand.tmp 107), type := 4, pos := "law.go:120", after := #[{ on := 17, ground := Ground.data }, { on := 16, ground := Ground.chain }], guard := none }) (v := ?cv18) rfl (by kernel_rfl) (by kernel_rfl) (by kernel_rfl) (fun _ _ _ h => h) (Or.inl ⟨by rfl, ?cy18⟩) (by assumption) ?cr18
                case cy18 => (intro w hSw; (try dsimp only at hSw); go_simp; try with_reducible rfl)
                (try simp only [Act.put])
                (try simp only [List.setIfInBounds_toArray])
                (try simp only [List.set_cons_succ])
                (try simp only [List.set_cons_zero])
                refine wpAnyH_take (i := 19) (oi := { dst := some 109, op := Op.load 28 (Operand.tmp 9), type := 28, pos := "law.go:120", after := #[{ on := 18, ground := Ground.guard }], guard := some (18, true) }) (v := undef) rfl (by kernel_rfl) (by kernel_rfl) (by kernel_rfl) (fun _ _ _ h => h) (Or.inr ⟨by kernel_rfl, rfl⟩) (by assumption) ?cr19
                (try simp only [Act.put])
                (try simp only [List.setIfInBounds_toArray])
                (try simp only [List.set_cons_succ])
                (try simp only [List.set_cons_zero])
                refine wpAnyH_take (i := 20) (oi := { dst := some 110, op := Op.load 28 (Operand.tmp 11), type := 28, pos := "law.go:120", after := #[{ on := 18, ground := Ground.guard }], guard := some (18, true) }) (v := undef) rfl (by kernel_rfl) (by kernel_rfl) (by kernel_rfl) (fun _ _ _ h => h) (Or.inr ⟨by kernel_rfl, rfl⟩) (by assumption) ?cr20
                (try simp only [Act.put])
                (try simp only [List.setIfInBounds_toArray])
                (try simp only [List.set_cons_succ])
                (try simp only [List.set_cons_zero])
                refine wpAnyH_take (i := 21) (oi := { dst := some 111, op := Op.call { callee := Callee.value (Operand.func 18), args := #[Operand.tmp 109, Operand.tmp 110], argTypes := #[28, 28] }, type := 4, pos := "law.go:120", after := #[{ on := 19, ground := Ground.data }, { on := 20, ground := Ground.data }, { on := 18, ground := Ground.chain }, { on := 18, ground := Ground.guard }], guard := some (18, true) }) (v := undef) rfl (by kernel_rfl) (by kernel_rfl) (by kernel_rfl) (fun _ _ _ h => h) (Or.inr ⟨by kernel_rfl, rfl⟩) (by assumption) ?cr21
                (try simp only [Act.put])
                (try simp only [List.setIfInBounds_toArray])
                (try simp only [List.set_cons_succ])
                (try simp only [List.set_cons_zero])
                refine wpAnyH_take (i := 22) (oi := { dst := some 112, op := Op.pick (Operand.tmp 108) (Operand.tmp 111) (Operand.const (Value.bool false)), type := 4, pos := "law.go:120", after := #[{ on := 18, ground := Ground.data }, { on := 21, ground := Ground.data }], guard := none }) (v := ?cv22) rfl (by kernel_rfl) (by kernel_rfl) (by kernel_rfl) (fun _ _ _ h => h) (Or.inl ⟨by rfl, ?cy22⟩) (by assumption) ?cr22
                case cy22 => (intro w hSw; (try dsimp only at hSw); go_simp; try with_reducible rfl)
                (try simp only [Act.put])
                (try simp only [List.setIfInBounds_toArray])
                (try simp only [List.set_cons_succ])
                (try simp only [List.set_cons_zero])
                refine wpAnyH_take (i := 23) (oi := { dst := some 113, op := Op.move (Operand.tmp 112), type := 4, pos := "law.go:120", after := #[{ on := 22, ground := Ground.data }, { on := 21, ground := Ground.chain }], guard := none }) (v := ?cv23) rfl (by kernel_rfl) (by kernel_rfl) (by kernel_rfl) (fun _ _ _ h => h) (Or.inl ⟨by rfl, ?cy23⟩) (by assumption) ?cr23
                case cy23 => (intro w hSw; (try dsimp only at hSw); go_simp; try with_reducible rfl)
                (try simp only [Act.put])
                (try simp only [List.setIfInBounds_toArray])
                (try simp only [List.set_cons_succ])
                (try simp only [List.set_cons_zero])
                refine wpAnyH_take (i := 24) (oi := { dst := some 114, op := Op.load 28 (Operand.tmp 11), type := 28, pos := "law.go:120", after := #[{ on := 23, ground := Ground.guard }], guard := some (23, true) }) (v := undef) rfl (by kernel_rfl) (by kernel_rfl) (by kernel_rfl) (fun _ _ _ h => h) (Or.inr ⟨by kernel_rfl, rfl⟩) (by assumption) ?cr24
                (try simp only [Act.put])
                (try simp only [List.setIfInBounds_toArray])
                (try simp only [List.set_cons_succ])
                (try simp only [List.set_cons_zero])
                refine wpAnyH_take (i := 25) (oi := { dst := some 115, op := Op.load 28 (Operand.tmp 9), type := 28, pos := "law.go:120", after := #[{ on := 23, ground := Ground.guard }], guard := some (23, true) }) (v := undef) rfl (by kernel_rfl) (by kernel_rfl) (by kernel_rfl) (fun _ _ _ h => h) (Or.inr ⟨by kernel_rfl, rfl⟩) (by assumption) ?cr25
                (try simp only [Act.put])
                (try simp only [List.setIfInBounds_toArray])
                (try simp only [List.set_cons_succ])
                (try simp only [List.set_cons_zero])
                refine wpAnyH_take (i := 26) (oi := { dst := some 116, op := Op.call { callee := Callee.value (Operand.func 18), args := #[Operand.tmp 114, Operand.tmp 115], argTypes := #[28, 28] }, type := 4, pos := "law.go:120", after := #[{ on := 24, ground := Ground.data }, { on := 25, ground := Ground.data }, { on := 23, ground := Ground.chain }, { on := 23, ground := Ground.guard }], guard := some (23, true) }) (v := undef) rfl (by kernel_rfl) (by kernel_rfl) (by kernel_rfl) (fun _ _ _ h => h) (Or.inr ⟨by kernel_rfl, rfl⟩) (by assumption) ?cr26
                (try simp only [Act.put])
                (try simp only [List.setIfInBounds_toArray])
                (try simp only [List.set_cons_succ])
                (try simp only [List.set_cons_zero])
                refine wpAnyH_take (i := 27) (oi := { dst := some 117, op := Op.pick (Operand.tmp 113) (Operand.tmp 116) (Operand.const (Value.bool false)), type := 4, pos := "law.go:120", after := #[{ on := 23, ground := Ground.data }, { on := 26, ground := Ground.data }], guard := none }) (v := ?cv27) rfl (by kernel_rfl) (by kernel_rfl) (by kernel_rfl) (fun _ _ _ h => h) (Or.inl ⟨by rfl, ?cy27⟩) (by assumption) ?cr27
                case cy27 => (intro w hSw; (try dsimp only at hSw); go_simp; try with_reducible rfl)
                (try simp only [Act.put])
                (try simp only [List.setIfInBounds_toArray])
                (try simp only [List.set_cons_succ])
                (try simp only [List.set_cons_zero])
                refine wpAnyH_take (i := 28) (oi := { dst := some 118, op := Op.binOp BinOp.eql 4 (Operand.tmp 92) (Operand.tmp 117) 4, type := 4, pos := "law.go:120", after := #[{ on := 2, ground := Ground.data }, { on := 27, ground := Ground.data }], guard := none }) (v := ?cv28) rfl (by kernel_rfl) (by kernel_rfl) (by kernel_rfl) (fun _ _ _ h => h) (Or.inl ⟨by rfl, ?cy28⟩) (by assumption) ?cr28
                case cy28 => (intro w hSw; (try dsimp only at hSw); go_simp; try with_reducible rfl)
                (try simp only [Act.put])
                (try simp only [List.setIfInBounds_toArray])
                (try simp only [List.set_cons_succ])
                (try simp only [List.set_cons_zero])
                refine wpAnyH_take (i := 29) (oi := { dst := some 119, op := Op.move (Operand.tmp 118), type := 4, pos := "law.go:120", after := #[{ on := 28, ground := Ground.data }, { on := 26, ground := Ground.chain }], guard := none }) (v := ?cv29) rfl (by kernel_rfl) (by kernel_rfl) (by kernel_rfl) (fun _ _ _ h => h) (Or.inl ⟨by rfl, ?cy29⟩) (by assumption) ?cr29
                case cy29 => (intro w hSw; (try dsimp only at hSw); go_simp; try with_reducible rfl)
                (try simp only [Act.put])
                (try simp only [List.setIfInBounds_toArray])
                (try simp only [List.set_cons_succ])
                (try simp only [List.set_cons_zero])
                refine wpAnyH_ready (rs := [30]) (by kernel_rfl) (by simp) ?_
                refine AllReadyH.cons (o := { dst := some 120, op := Op.call { callee := Callee.value (Operand.func 11), args := #[], argTypes := #[] }, type := 4, pos := "law.go:120", after := #[{ on := 29, ground := Ground.chain }, { on := 29, ground := Ground.guard }], guard := some (29, true) }) rfl (fun K hK => ?_) AllReadyH.nil
                go_simp
                go_at_call 11
                refine (awake_any _).mono ?_
                rintro e wn ⟨rfl, hb⟩
                have A1' := Lib.hid (A1.out.below hb)
                have A2' := Lib.hid (A2.out.below hb)
                have C0' := Lib.hid (C0.out.below hb)
                have VJ' := Lib.hid (VJ.out.below hb)
                have BB' := Lib.hid (BB.out.trans (hb.mono BB.out.size))
                clear A1
                have A1 := A1'
                clear A1'
                clear A2
                have A2 := A2'
                clear A2'
                clear C0
                have C0 := C0'
                clear C0'
                clear VJ
                have VJ := VJ'
                clear VJ'
                clear BB
                have BB := BB'
                clear BB'
                clear hb
                go_simp
                refine hK.out _ _ ?_ (fun hHeld => ?_)
                · exact ⟨A1.out.cell, A2.out.cell, C0.out.c1⟩
                clear hK K
                (try simp only [Act.put])
                (try simp only [List.setIfInBounds_toArray])
                (try simp only [List.set_cons_succ])
                (try simp only [List.set_cons_zero])
                refine wpAnyH_take (i := 31) (oi := { dst := some 121, op := Op.pick (Operand.tmp 119) (Operand.tmp 120) (Operand.const (Value.bool false)), type := 4, pos := "law.go:120", after := #[{ on := 29, ground := Ground.data }, { on := 30, ground := Ground.data }], guard := none }) (v := ?cv31) rfl (by kernel_rfl) (by kernel_rfl) (by kernel_rfl) (fun _ _ _ h => h) (Or.inl ⟨by rfl, ?cy31⟩) (by assumption) ?cr31
                case cy31 => (intro w hSw; (try dsimp only at hSw); go_simp; try with_reducible rfl)
                (try simp only [Act.put])
                (try simp only [List.setIfInBounds_toArray])
                (try simp only [List.set_cons_succ])
                (try simp only [List.set_cons_zero])
                refine wpAnyH_ready (rs := [32]) (by kernel_rfl) (by simp) ?_
                refine AllReadyH.cons (o := _) rfl (fun K hK => ?_) AllReadyH.nil
                go_simp
                refine hK.out _ _ ?_ (fun hHeld => ?_)
                · exact ⟨A1.out.cell, A2.out.cell, C0.out.c1⟩
                clear hK K
                (try simp only [Act.put])
                (try simp only [List.setIfInBounds_toArray])
                (try simp only [List.set_cons_succ])
                (try simp only [List.set_cons_zero])
                refine wpAnyH_done (by kernel_rfl) ?_ _
                go_wp2
                go_ret
                exact ⟨rfl, BB.out⟩
            · skip
              have hle := hle rfl
              obtain ⟨z, hz⟩ : ∃ z, atL my x = z := ⟨_, rfl⟩
              have CU := Lib.hid (show atL (joinL mx my) x = z by rw [hj, ← hz]; omega)
              have CV := Lib.hid hz
              clear hj hle hz
              cases c2
              · skip
                have A1' := Lib.hid (A1.out.below (Below.refl _ _).drew)
                have A2' := Lib.hid (A2.out.below (Below.refl _ _).drew)
                have C0' := Lib.hid (C0.out.below (Below.refl _ _).drew)
                have A3' := Lib.hid (A3.out.below (Below.refl _ _).drew)
                have BB' := Lib.hid (BB.out.drew)
                clear A1
                have A1 := A1'
                clear A1'
                clear A2
                have A2 := A2'
                clear A2'
                clear C0
                have C0 := C0'
                clear C0'
                clear A3
                have A3 := A3'
                clear A3'
                clear BB
                have BB := BB'
                clear BB'
                refine wp_region_held_drew (S := fun w' => w'.cell? ⟨b1, 0, none⟩ = some (.map p1) ∧ w'.cell? ⟨b2, 0, none⟩ = some (.map p2) ∧ w'.cell? ⟨b3, 0, none⟩ = some (.map p3)) (by kernel_rfl) ⟨A1.out.cell, A2.out.cell, A3.out.cell⟩ (fun hHeld => ?_)
                refine wpAnyH_take (i := 0) (oi := { dst := some 66, op := Op.load 28 (Operand.tmp 9), type := 28, pos := "law.go:117", after := #[], guard := none }) (v := ?dv0) rfl (by kernel_rfl) (by kernel_rfl) (by kernel_rfl) (fun _ _ _ h => h) (Or.inl ⟨by rfl, ?dy0⟩) (by assumption) ?dr0
                case dy0 => (intro w hSw; (try dsimp only at hSw); go_simp; try with_reducible rfl)
                (try simp only [Act.put])
                (try simp only [List.setIfInBounds_toArray])
                (try simp only [List.set_cons_succ])
                (try simp only [List.set_cons_zero])
                refine wpAnyH_take (i := 1) (oi := { dst := some 67, op := Op.load 28 (Operand.tmp 13), type := 28, pos := "law.go:117", after := #[], guard := none }) (v := ?dv1) rfl (by kernel_rfl) (by kernel_rfl) (by kernel_rfl) (fun _ _ _ h => h) (Or.inl ⟨by rfl, ?dy1⟩) (by assumption) ?dr1
                case dy1 => (intro w hSw; (try dsimp only at hSw); go_simp; try with_reducible rfl)
                (try simp only [Act.put])
                (try simp only [List.setIfInBounds_toArray])
                (try simp only [List.set_cons_succ])
                (try simp only [List.set_cons_zero])
                refine wpAnyH_ready (rs := [2]) (by kernel_rfl) (by simp) ?_
                refine AllReadyH.cons (o := { dst := some 68, op := Op.call { callee := Callee.value (Operand.func 22), args := #[Operand.tmp 66, Operand.tmp 67], argTypes := #[28, 28] }, type := 4, pos := "law.go:117", after := #[{ on := 0, ground := Ground.data }, { on := 1, ground := Ground.data }], guard := none }) rfl (fun K hK => ?_) AllReadyH.nil
                go_simp
                go_at_call 22
                refine (same_is (r := true) (by simp) A1.out.v A3.out.v).mono ?_
                rintro e wn ⟨rfl, hb⟩
                have A1' := Lib.hid (A1.out.below hb)
                have A2' := Lib.hid (A2.out.below hb)
                have C0' := Lib.hid (C0.out.below hb)
                have A3' := Lib.hid (A3.out.below hb)
                have BB' := Lib.hid (BB.out.trans (hb.mono BB.out.size))
                clear A1
                have A1 := A1'
                clear A1'
                clear A2
                have A2 := A2'
                clear A2'
                clear C0
                have C0 := C0'
                clear C0'
                clear A3
                have A3 := A3'
                clear A3'
                clear BB
                have BB := BB'
                clear BB'
                clear hb
                go_simp
                refine hK.out _ _ ?_ (fun hHeld => ?_)
                · exact ⟨A1.out.cell, A2.out.cell, A3.out.cell⟩
                clear hK K
                (try simp only [Act.put])
                (try simp only [List.setIfInBounds_toArray])
                (try simp only [List.set_cons_succ])
                (try simp only [List.set_cons_zero])
                refine wpAnyH_take (i := 3) (oi := { dst := some 69, op := Op.unOp UnOp.not 4 (Operand.tmp 68), type := 4, pos := "law.go:117", after := #[{ on := 2, ground := Ground.data }], guard := none }) (v := ?dv3) rfl (by kernel_rfl) (by kernel_rfl) (by kernel_rfl) (fun _ _ _ h => h) (Or.inl ⟨by rfl, ?dy3⟩) (by assumption) ?dr3
                case dy3 => (intro w hSw; (try dsimp only at hSw); go_simp; try with_reducible rfl)
                (try simp only [Act.put])
                (try simp only [List.setIfInBounds_toArray])
                (try simp only [List.set_cons_succ])
                (try simp only [List.set_cons_zero])
                refine wpAnyH_take (i := 4) (oi := { dst := some 70, op := Op.move (Operand.tmp 69), type := 4, pos := "law.go:117", after := #[{ on := 3, ground := Ground.data }, { on := 2, ground := Ground.chain }], guard := none }) (v := ?dv4) rfl (by kernel_rfl) (by kernel_rfl) (by kernel_rfl) (fun _ _ _ h => h) (Or.inl ⟨by rfl, ?dy4⟩) (by assumption) ?dr4
                case dy4 => (intro w hSw; (try dsimp only at hSw); go_simp; try with_reducible rfl)
                (try simp only [Act.put])
                (try simp only [List.setIfInBounds_toArray])
                (try simp only [List.set_cons_succ])
                (try simp only [List.set_cons_zero])
                refine wpAnyH_take (i := 5) (oi := { dst := some 71, op := Op.load 28 (Operand.tmp 9), type := 28, pos := "law.go:117", after := #[{ on := 4, ground := Ground.guard }], guard := some (4, false) }) (v := ?dv5) rfl (by kernel_rfl) (by kernel_rfl) (by kernel_rfl) (fun _ _ _ h => h) (Or.inl ⟨by rfl, ?dy5⟩) (by assumption) ?dr5
                case dy5 => (intro w hSw; (try dsimp only at hSw); go_simp; try with_reducible rfl)
                (try simp only [Act.put])
                (try simp only [List.setIfInBounds_toArray])
                (try simp only [List.set_cons_succ])
                (try simp only [List.set_cons_zero])
                refine wpAnyH_take (i := 6) (oi := { dst := some 72, op := Op.load 28 (Operand.tmp 9), type := 28, pos := "law.go:117", after := #[{ on := 4, ground := Ground.guard }], guard := some (4, false) }) (v := ?dv6) rfl (by kernel_rfl) (by kernel_rfl) (by kernel_rfl) (fun _ _ _ h => h) (Or.inl ⟨by rfl, ?dy6⟩) (by assumption) ?dr6
                case dy6 => (intro w hSw; (try dsimp only at hSw); go_simp; try with_reducible rfl)
                (try simp only [Act.put])
                (try simp only [List.setIfInBounds_toArray])
                (try simp only [List.set_cons_succ])
                (try simp only [List.set_cons_zero])
                refine wpAnyH_ready (rs := [7]) (by kernel_rfl) (by simp) ?_
                refine AllReadyH.cons (o := { dst := some 73, op := Op.call { callee := Callee.value (Operand.func 18), args := #[Operand.tmp 71, Operand.tmp 72], argTypes := #[28, 28] }, type := 4, pos := "law.go:117", after := #[{ on := 5, ground := Ground.data }, { on := 6, ground := Ground.data }, { on := 4, ground := Ground.chain }, { on := 4, ground := Ground.guard }], guard := some (4, false) }) rfl (fun K hK => ?_) AllReadyH.nil
                go_simp
                go_at_call 18
                refine (below_is (r := true) (below_refl M0.out) A1.out.v A1.out.v).mono ?_
                rintro e wn ⟨rfl, hb⟩
                have A1' := Lib.hid (A1.out.below hb)
                have A2' := Lib.hid (A2.out.below hb)
                have C0' := Lib.hid (C0.out.below hb)
                have A3' := Lib.hid (A3.out.below hb)
                have BB' := Lib.hid (BB.out.trans (hb.mono BB.out.size))
                clear A1
                have A1 := A1'
                clear A1'
                clear A2
                have A2 := A2'
                clear A2'
                clear C0
                have C0 := C0'
                clear C0'
                clear A3
                have A3 := A3'
                clear A3'
                clear BB
                have BB := BB'
                clear BB'
                clear hb
                go_simp
                refine hK.out _ _ ?_ (fun hHeld => ?_)
                · exact ⟨A1.out.cell, A2.out.cell, A3.out.cell⟩
                clear hK K
                (try simp only [Act.put])
                (try simp only [List.setIfInBounds_toArray])
                (try simp only [List.set_cons_succ])
                (try simp only [List.set_cons_zero])
                refine wpAnyH_take (i := 8) (oi := { dst := some 74, op := Op.unOp UnOp.not 4 (Operand.tmp 73), type := 4, pos := "law.go:117", after := #[{ on := 7, ground := Ground.data }, { on := 4, ground := Ground.guard }], guard := some (4, false) }) (v := ?dv8) rfl (by kernel_rfl) (by kernel_rfl) (by kernel_rfl) (fun _ _ _ h => h) (Or.inl ⟨by rfl, ?dy8⟩) (by assumption) ?dr8
                case dy8 => (intro w hSw; (try dsimp only at hSw); go_simp; try with_reducible rfl)
                (try simp only [Act.put])
                (try simp only [List.setIfInBounds_toArray])
                (try simp only [List.set_cons_succ])
                (try simp only [List.set_cons_zero])
                refine wpAnyH_take (i := 9) (oi := { dst := some 75, op := Op.pick (Operand.tmp 70) (Operand.const (Value.bool true)) (Operand.tmp 74), type := 4, pos := "law.go:117", after := #[{ on := 4, ground := Ground.data }, { on := 8, ground := Ground.data }], guard := none }) (v := ?dv9) rfl (by kernel_rfl) (by kernel_rfl) (by kernel_rfl) (fun _ _ _ h => h) (Or.inl ⟨by rfl, ?dy9⟩) (by assumption) ?dr9
                case dy9 => (intro w hSw; (try dsimp only at hSw); go_simp; try with_reducible rfl)
                (try simp only [Act.put])
                (try simp only [List.setIfInBounds_toArray])
                (try simp only [List.set_cons_succ])
                (try simp only [List.set_cons_zero])
                refine wpAnyH_take (i := 10) (oi := { dst := some 76, op := Op.move (Operand.tmp 75), type := 4, pos := "law.go:117", after := #[{ on := 9, ground := Ground.data }, { on := 7, ground := Ground.chain }], guard := none }) (v := ?dv10) rfl (by kernel_rfl) (by kernel_rfl) (by kernel_rfl) (fun _ _ _ h => h) (Or.inl ⟨by rfl, ?dy10⟩) (by assumption) ?dr10
                case dy10 => (intro w hSw; (try dsimp only at hSw); go_simp; try with_reducible rfl)
                (try simp only [Act.put])
                (try simp only [List.setIfInBounds_toArray])
                (try simp only [List.set_cons_succ])
                (try simp only [List.set_cons_zero])
                refine wpAnyH_take (i := 11) (oi := { dst := some 77, op := Op.load 28 (Operand.tmp 9), type := 28, pos := "law.go:117", after := #[{ on := 10, ground := Ground.guard }], guard := some (10, false) }) (v := ?dv11) rfl (by kernel_rfl) (by kernel_rfl) (by kernel_rfl) (fun _ _ _ h => h) (Or.inl ⟨by rfl, ?dy11⟩) (by assumption) ?dr11
                case dy11 => (intro w hSw; (try dsimp only at hSw); go_simp; try with_reducible rfl)
                (try simp only [Act.put])
                (try simp only [List.setIfInBounds_toArray])
                (try simp only [List.set_cons_succ])
                (try simp only [List.set_cons_zero])
                refine wpAnyH_take (i := 12) (oi := { dst := some 78, op := Op.load 28 (Operand.tmp 11), type := 28, pos := "law.go:117", after := #[{ on := 10, ground := Ground.guard }], guard := some (10, false) }) (v := ?dv12) rfl (by kernel_rfl) (by kernel_rfl) (by kernel_rfl) (fun _ _ _ h => h) (Or.inl ⟨by rfl, ?dy12⟩) (by assumption) ?dr12
                case dy12 => (intro w hSw; (try dsimp only at hSw); go_simp; try with_reducible rfl)
                (try simp only [Act.put])
                (try simp only [List.setIfInBounds_toArray])
                (try simp only [List.set_cons_succ])
                (try simp only [List.set_cons_zero])
                refine wpAnyH_ready (rs := [13]) (by kernel_rfl) (by simp) ?_
                refine AllReadyH.cons (o := { dst := some 79, op := Op.call { callee := Callee.value (Operand.func 18), args := #[Operand.tmp 77, Operand.tmp 78], argTypes := #[28, 28] }, type := 4, pos := "law.go:117", after := #[{ on := 11, ground := Ground.data }, { on := 12, ground := Ground.data }, { on := 10, ground := Ground.chain }, { on := 10, ground := Ground.guard }], guard := some (10, false) }) rfl (fun K hK => ?_) AllReadyH.nil
                go_simp
                go_at_call 18
                refine (below_is C1.out A1.out.v A2.out.v).mono ?_
                rintro e wn ⟨rfl, hb⟩
                have A1' := Lib.hid (A1.out.below hb)
                have A2' := Lib.hid (A2.out.below hb)
                have C0' := Lib.hid (C0.out.below hb)
                have A3' := Lib.hid (A3.out.below hb)
                have BB' := Lib.hid (BB.out.trans (hb.mono BB.out.size))
                clear A1
                have A1 := A1'
                clear A1'
                clear A2
                have A2 := A2'
                clear A2'
                clear C0
                have C0 := C0'
                clear C0'
                clear A3
                have A3 := A3'
                clear A3'
                clear BB
                have BB := BB'
                clear BB'
                clear hb
                go_simp
                refine hK.out _ _ ?_ (fun hHeld => ?_)
                · exact ⟨A1.out.cell, A2.out.cell, A3.out.cell⟩
                clear hK K
                (try simp only [Act.put])
                (try simp only [List.setIfInBounds_toArray])
                (try simp only [List.set_cons_succ])
                (try simp only [List.set_cons_zero])
                refine wpAnyH_take (i := 14) (oi := { dst := some 80, op := Op.move (Operand.tmp 79), type := 4, pos := "law.go:117", after := #[{ on := 13, ground := Ground.data }, { on := 13, ground := Ground.chain }, { on := 10, ground := Ground.guard }], guard := some (10, false) }) (v := ?dv14) rfl (by kernel_rfl) (by kernel_rfl) (by kernel_rfl) (fun _ _ _ h => h) (Or.inl ⟨by rfl, ?dy14⟩) (by assumption) ?dr14
                case dy14 => (intro w hSw; (try dsimp only at hSw); go_simp; try with_reducible rfl)
                (try simp only [Act.put])
                (try simp only [List.setIfInBounds_toArray])
                (try simp only [List.set_cons_succ])
                (try simp only [List.set_cons_zero])
                refine wpAnyH_take (i := 15) (oi := { dst := some 81, op := Op.load 28 (Operand.tmp 11), type := 28, pos := "law.go:117", after := #[{ on := 14, ground := Ground.guard }], guard := some (14, true) }) (v := ?dv15) rfl (by kernel_rfl) (by kernel_rfl) (by kernel_rfl) (fun _ _ _ h => h) (Or.inl ⟨by rfl, ?dy15⟩) (by assumption) ?dr15
                case dy15 => (intro w hSw; (try dsimp only at hSw); go_simp; try with_reducible rfl)
                (try simp only [Act.put])
                (try simp only [List.setIfInBounds_toArray])
                (try simp only [List.set_cons_succ])
                (try simp only [List.set_cons_zero])
                refine wpAnyH_take (i := 16) (oi := { dst := some 82, op := Op.load 28 (Operand.tmp 9), type := 28, pos := "law.go:117", after := #[{ on := 14, ground := Ground.guard }], guard := some (14, true) }) (v := ?dv16) rfl (by kernel_rfl) (by kernel_rfl) (by kernel_rfl) (fun _ _ _ h => h) (Or.inl ⟨by rfl, ?dy16⟩) (by assumption) ?dr16
                case dy16 => (intro w hSw; (try dsimp only at hSw); go_simp; try with_reducible rfl)
                (try simp only [Act.put])
                (try simp only [List.setIfInBounds_toArray])
                (try simp only [List.set_cons_succ])
                (try simp only [List.set_cons_zero])
                refine wpAnyH_take (i := 18) (oi := { dst := some 84, op := Op.load 28 (Operand.tmp 9), type := 28, pos := "law.go:117", after := #[{ on := 14, ground := Ground.guard }], guard := some (14, true) }) (v := ?dv18) rfl (by kernel_rfl) (by kernel_rfl) (by kernel_rfl) (fun _ _ _ h => h) (Or.inl ⟨by rfl, ?dy18⟩) (by assumption) ?dr18
                case dy18 => (intro w hSw; (try dsimp only at hSw); go_simp; try with_reducible rfl)
                (try simp only [Act.put])
                (try simp only [List.setIfInBounds_toArray])
                (try simp only [List.set_cons_succ])
                (try simp only [List.set_cons_zero])
                refine wpAnyH_take (i := 19) (oi := { dst := some 85, op := Op.load 28 (Operand.tmp 11), type := 28, pos := "law.go:117", after := #[{ on := 14, ground := Ground.guard }], guard := some (14, true) }) (v := ?dv19) rfl (by kernel_rfl) (by kernel_rfl) (by kernel_rfl) (fun _ _ _ h => h) (Or.inl ⟨by rfl, ?dy19⟩) (by assumption) ?dr19
                case dy19 => (intro w hSw; (try dsimp only at hSw); go_simp; try with_reducible rfl)
                (try simp only [Act.put])
                (try simp only [List.setIfInBounds_toArray])
                (try simp only [List.set_cons_succ])
                (try simp only [List.set_cons_zero])
                refine wpAnyH_ready (rs := [17]) (by kernel_rfl) (by simp) ?_
                refine AllReadyH.cons (o := { dst := some 83, op := Op.call { callee := Callee.value (Operand.func 18), args := #[Operand.tmp 81, Operand.tmp 82], argTypes := #[28, 28] }, type := 4, pos := "law.go:117", after := #[{ on := 15, ground := Ground.data }, { on := 16, ground := Ground.data }, { on := 14, ground := Ground.chain }, { on := 14, ground := Ground.guard }], guard := some (14, true) }) rfl (fun K hK => ?_) AllReadyH.nil
                go_simp
                go_at_call 18
                refine (below_is C2.out A2.out.v A1.out.v).mono ?_
                rintro e wn ⟨rfl, hb⟩
                have A1' := Lib.hid (A1.out.below hb)
                have A2' := Lib.hid (A2.out.below hb)
                have C0' := Lib.hid (C0.out.below hb)
                have A3' := Lib.hid (A3.out.below hb)
                have BB' := Lib.hid (BB.out.trans (hb.mono BB.out.size))
                clear A1
                have A1 := A1'
                clear A1'
                clear A2
                have A2 := A2'
                clear A2'
                clear C0
                have C0 := C0'
                clear C0'
                clear A3
                have A3 := A3'
                clear A3'
                clear BB
                have BB := BB'
                clear BB'
                clear hb
                go_simp
                refine hK.out _ _ ?_ (fun hHeld => ?_)
                · exact ⟨A1.out.cell, A2.out.cell, A3.out.cell⟩
                clear hK K
                (try simp only [Act.put])
                (try simp only [List.setIfInBounds_toArray])
                (try simp only [List.set_cons_succ])
                (try simp only [List.set_cons_zero])
                refine wpAnyH_ready (rs := [20]) (by kernel_rfl) (by simp) ?_
                refine AllReadyH.cons (o := { dst := some 86, op := Op.call { callee := Callee.value (Operand.func 22), args := #[Operand.tmp 84, Operand.tmp 85], argTypes := #[28, 28] }, type := 4, pos := "law.go:117", after := #[{ on := 18, ground := Ground.data }, { on := 19, ground := Ground.data }, { on := 17, ground := Ground.chain }, { on := 14, ground := Ground.guard }], guard := some (14, true) }) rfl (fun K hK => ?_) AllReadyH.nil
                go_simp
                go_at_call 22
                refine (same_is (HS.out false rfl) A1.out.v A2.out.v).mono ?_
                rintro e wn ⟨rfl, hb⟩
                have A1' := Lib.hid (A1.out.below hb)
                have A2' := Lib.hid (A2.out.below hb)
                have C0' := Lib.hid (C0.out.below hb)
                have A3' := Lib.hid (A3.out.below hb)
                have BB' := Lib.hid (BB.out.trans (hb.mono BB.out.size))
                clear A1
                have A1 := A1'
                clear A1'
                clear A2
                have A2 := A2'
                clear A2'
                clear C0
                have C0 := C0'
                clear C0'
                clear A3
                have A3 := A3'
                clear A3'
                clear BB
                have BB := BB'
                clear BB'
                clear hb
                go_simp
                refine hK.out _ _ ?_ (fun hHeld => ?_)
                · exact ⟨A1.out.cell, A2.out.cell, A3.out.cell⟩
                clear hK K
                (try simp only [Act.put])
                (try simp only [List.setIfInBounds_toArray])
                (try simp only [List.set_cons_succ])
                (try simp only [List.set_cons_zero])
                refine wpAnyH_take (i := 21) (oi := { dst := some 87, op := Op.binOp BinOp.neq 4 (Operand.tmp 83) (Operand.tmp 86) 4, type := 4, pos := "law.go:117", after := #[{ on := 17, ground := Ground.data }, { on := 20, ground := Ground.data }, { on := 14, ground := Ground.guard }], guard := some (14, true) }) (v := ?dv21) rfl (by kernel_rfl) (by kernel_rfl) (by kernel_rfl) (fun _ _ _ h => h) (Or.inl ⟨by rfl, ?dy21⟩) (by assumption) ?dr21
                case dy21 => (intro w hSw; (try dsimp only at hSw); go_simp; try with_reducible rfl)
                (try simp only [Act.put])
                (try simp only [List.setIfInBounds_toArray])
                (try simp only [List.set_cons_succ])
                (try simp only [List.set_cons_zero])
                refine wpAnyH_take (i := 22) (oi := { dst := some 88, op := Op.pick (Operand.tmp 80) (Operand.tmp 87) (Operand.const (Value.bool false)), type := 4, pos := "law.go:117", after := #[{ on := 14, ground := Ground.data }, { on := 21, ground := Ground.data }, { on := 10, ground := Ground.guard }], guard := some (10, false) }) (v := ?dv22) rfl (by kernel_rfl) (by kernel_rfl) (by kernel_rfl) (fun _ _ _ h => h) (Or.inl ⟨by rfl, ?dy22⟩) (by assumption) ?dr22
                case dy22 => (intro w hSw; (try dsimp only at hSw); go_simp; try with_reducible rfl)
                (try simp only [Act.put])
                (try simp only [List.setIfInBounds_toArray])
                (try simp only [List.set_cons_succ])
                (try simp only [List.set_cons_zero])
                refine wpAnyH_take (i := 23) (oi := { dst := some 89, op := Op.pick (Operand.tmp 76) (Operand.const (Value.bool true)) (Operand.tmp 88), type := 4, pos := "law.go:117", after := #[{ on := 10, ground := Ground.data }, { on := 22, ground := Ground.data }], guard := none }) (v := ?dv23) rfl (by kernel_rfl) (by kernel_rfl) (by kernel_rfl) (fun _ _ _ h => h) (Or.inl ⟨by rfl, ?dy23⟩) (by assumption) ?dr23
                case dy23 => (intro w hSw; (try dsimp only at hSw); go_simp; try with_reducible rfl)
                (try simp only [Act.put])
                (try simp only [List.setIfInBounds_toArray])
                (try simp only [List.set_cons_succ])
                (try simp only [List.set_cons_zero])
                refine wpAnyH_done (by kernel_rfl) ?_ _
                go_wp2_with fail
                clear A3
                have A1' := Lib.hid (A1.out.below (Below.refl _ _).drew)
                have A2' := Lib.hid (A2.out.below (Below.refl _ _).drew)
                have C0' := Lib.hid (C0.out.below (Below.refl _ _).drew)
                have BB' := Lib.hid (BB.out.drew)
                clear A1
                have A1 := A1'
                clear A1'
                clear A2
                have A2 := A2'
                clear A2'
                clear C0
                have C0 := C0'
                clear C0'
                clear BB
                have BB := BB'
                clear BB'
                refine wp_region_held_drew (S := fun w' => w'.cell? ⟨b1, 0, none⟩ = some (.map p1) ∧ w'.cell? ⟨b2, 0, none⟩ = some (.map p2) ∧ w'.cell? ⟨sb, off, none⟩ = some (.int .i64 x)) (by kernel_rfl) ⟨A1.out.cell, A2.out.cell, C0.out.c1⟩ (fun hHeld => ?_)
                refine wpAnyH_take (i := 0) (oi := { dst := some 90, op := Op.load 28 (Operand.tmp 9), type := 28, pos := "law.go:120", after := #[], guard := none }) (v := ?ev0) rfl (by kernel_rfl) (by kernel_rfl) (by kernel_rfl) (fun _ _ _ h => h) (Or.inl ⟨by rfl, ?ey0⟩) (by assumption) ?er0
                case ey0 => (intro w hSw; (try dsimp only at hSw); go_simp; try with_reducible rfl)
                (try simp only [Act.put])
                (try simp only [List.setIfInBounds_toArray])
                (try simp only [List.set_cons_succ])
                (try simp only [List.set_cons_zero])
                refine wpAnyH_take (i := 1) (oi := { dst := some 91, op := Op.load 28 (Operand.tmp 11), type := 28, pos := "law.go:120", after := #[], guard := none }) (v := ?ev1) rfl (by kernel_rfl) (by kernel_rfl) (by kernel_rfl) (fun _ _ _ h => h) (Or.inl ⟨by rfl, ?ey1⟩) (by assumption) ?er1
                case ey1 => (intro w hSw; (try dsimp only at hSw); go_simp; try with_reducible rfl)
                (try simp only [Act.put])
                (try simp only [List.setIfInBounds_toArray])
                (try simp only [List.set_cons_succ])
                (try simp only [List.set_cons_zero])
                refine wpAnyH_take (i := 3) (oi := { dst := some 93, op := Op.load 28 (Operand.tmp 9), type := 28, pos := "law.go:120", after := #[], guard := none }) (v := ?ev3) rfl (by kernel_rfl) (by kernel_rfl) (by kernel_rfl) (fun _ _ _ h => h) (Or.inl ⟨by rfl, ?ey3⟩) (by assumption) ?er3
                case ey3 => (intro w hSw; (try dsimp only at hSw); go_simp; try with_reducible rfl)
                (try simp only [Act.put])
                (try simp only [List.setIfInBounds_toArray])
                (try simp only [List.set_cons_succ])
                (try simp only [List.set_cons_zero])
                refine wpAnyH_take (i := 4) (oi := { dst := some 94, op := Op.load 28 (Operand.tmp 11), type := 28, pos := "law.go:120", after := #[], guard := none }) (v := ?ev4) rfl (by kernel_rfl) (by kernel_rfl) (by kernel_rfl) (fun _ _ _ h => h) (Or.inl ⟨by rfl, ?ey4⟩) (by assumption) ?er4
                case ey4 => (intro w hSw; (try dsimp only at hSw); go_simp; try with_reducible rfl)
                (try simp only [Act.put])
                (try simp only [List.setIfInBounds_toArray])
                (try simp only [List.set_cons_succ])
                (try simp only [List.set_cons_zero])
                refine wpAnyH_take (i := 6) (oi := { dst := some 96, op := Op.move (Operand.tmp 0), type := 22, pos := "law.go:120", after := #[], guard := none }) (v := ?ev6) rfl (by kernel_rfl) (by kernel_rfl) (by kernel_rfl) (fun _ _ _ h => h) (Or.inl ⟨by rfl, ?ey6⟩) (by assumption) ?er6
                case ey6 => (intro w hSw; (try dsimp only at hSw); go_simp; try with_reducible rfl)
                (try simp only [Act.put])
                (try simp only [List.setIfInBounds_toArray])
                (try simp only [List.set_cons_succ])
                (try simp only [List.set_cons_zero])
                refine wpAnyH_take (i := 7) (oi := { dst := some 97, op := Op.indexAddr 22 (Operand.tmp 96) (Operand.const (Value.int IntKind.i64 0)), type := 0, pos := "law.go:120", after := #[{ on := 6, ground := Ground.data }], guard := none }) (v := ?ev7) rfl (by kernel_rfl) (by kernel_rfl) (by kernel_rfl) (fun _ _ _ h => h) (Or.inl ⟨by rfl, ?ey7⟩) (by assumption) ?er7
                case ey7 => (intro w hSw; (try dsimp only at hSw); go_simp; try with_reducible rfl)
                (try simp only [Act.put])
                (try simp only [List.setIfInBounds_toArray])
                (try simp only [List.set_cons_succ])
                (try simp only [List.set_cons_zero])
                refine wpAnyH_take (i := 8) (oi := { dst := some 98, op := Op.fieldAddr 37 (Operand.tmp 97) 0, type := 0, pos := "law.go:120", after := #[{ on := 7, ground := Ground.data }], guard := none }) (v := ?ev8) rfl (by kernel_rfl) (by kernel_rfl) (by kernel_rfl) (fun _ _ _ h => h) (Or.inl ⟨by rfl, ?ey8⟩) (by assumption) ?er8
                case ey8 => (intro w hSw; (try dsimp only at hSw); go_simp; try with_reducible rfl)
                (try simp only [Act.put])
                (try simp only [List.setIfInBounds_toArray])
                (try simp only [List.set_cons_succ])
                (try simp only [List.set_cons_zero])
                refine wpAnyH_take (i := 9) (oi := { dst := some 99, op := Op.load 23 (Operand.tmp 98), type := 23, pos := "law.go:120", after := #[{ on := 8, ground := Ground.data }], guard := none }) (v := ?ev9) rfl (by kernel_rfl) (by kernel_rfl) (by kernel_rfl) (fun _ _ _ h => h) (Or.inl ⟨by rfl, ?ey9⟩) (by assumption) ?er9
                case ey9 => (intro w hSw; (try dsimp only at hSw); go_simp; try with_reducible rfl)
                (try simp only [Act.put])
                (try simp only [List.setIfInBounds_toArray])
                (try simp only [List.set_cons_succ])
                (try simp only [List.set_cons_zero])
                refine wpAnyH_take (i := 11) (oi := { dst := some 101, op := Op.load 28 (Operand.tmp 11), type := 28, pos := "law.go:120", after := #[], guard := none }) (v := ?ev11) rfl (by kernel_rfl) (by kernel_rfl) (by kernel_rfl) (fun _ _ _ h => h) (Or.inl ⟨by rfl, ?ey11⟩) (by assumption) ?er11
                case ey11 => (intro w hSw; (try dsimp only at hSw); go_simp; try with_reducible rfl)
                (try simp only [Act.put])
                (try simp only [List.setIfInBounds_toArray])
                (try simp only [List.set_cons_succ])
                (try simp only [List.set_cons_zero])
                refine wpAnyH_take (i := 12) (oi := { dst := some 102, op := Op.move (Operand.tmp 0), type := 22, pos := "law.go:120", after := #[], guard := none }) (v := ?ev12) rfl (by kernel_rfl) (by kernel_rfl) (by kernel_rfl) (fun _ _ _ h => h) (Or.inl ⟨by rfl, ?ey12⟩) (by assumption) ?er12
                case ey12 => (intro w hSw; (try dsimp only at hSw); go_simp; try with_reducible rfl)
                (try simp only [Act.put])
                (try simp only [List.setIfInBounds_toArray])
                (try simp only [List.set_cons_succ])
                (try simp only [List.set_cons_zero])
                refine wpAnyH_take (i := 13) (oi := { dst := some 103, op := Op.indexAddr 22 (Operand.tmp 102) (Operand.const (Value.int IntKind.i64 0)), type := 0, pos := "law.go:120", after := #[{ on := 12, ground := Ground.data }], guard := none }) (v := ?ev13) rfl (by kernel_rfl) (by kernel_rfl) (by kernel_rfl) (fun _ _ _ h => h) (Or.inl ⟨by rfl, ?ey13⟩) (by assumption) ?er13
                case ey13 => (intro w hSw; (try dsimp only at hSw); go_simp; try with_reducible rfl)
                (try simp only [Act.put])
                (try simp only [List.setIfInBounds_toArray])
                (try simp only [List.set_cons_succ])
                (try simp only [List.set_cons_zero])
                refine wpAnyH_take (i := 14) (oi := { dst := some 104, op := Op.fieldAddr 37 (Operand.tmp 103) 0, type := 0, pos := "law.go:120", after := #[{ on := 13, ground := Ground.data }], guard := none }) (v := ?ev14) rfl (by kernel_rfl) (by kernel_rfl) (by kernel_rfl) (fun _ _ _ h => h) (Or.inl ⟨by rfl, ?ey14⟩) (by assumption) ?er14
                case ey14 => (intro w hSw; (try dsimp only at hSw); go_simp; try with_reducible rfl)
                (try simp only [Act.put])
                (try simp only [List.setIfInBounds_toArray])
                (try simp only [List.set_cons_succ])
                (try simp only [List.set_cons_zero])
                refine wpAnyH_take (i := 15) (oi := { dst := some 105, op := Op.load 23 (Operand.tmp 104), type := 23, pos := "law.go:120", after := #[{ on := 14, ground := Ground.data }], guard := none }) (v := ?ev15) rfl (by kernel_rfl) (by kernel_rfl) (by kernel_rfl) (fun _ _ _ h => h) (Or.inl ⟨by rfl, ?ey15⟩) (by assumption) ?er15
                case ey15 => (intro w hSw; (try dsimp only at hSw); go_simp; try with_reducible rfl)
                (try simp only [Act.put])
                (try simp only [List.setIfInBounds_toArray])
                (try simp only [List.set_cons_succ])
                (try simp only [List.set_cons_zero])
                refine wpAnyH_ready (rs := [2]) (by kernel_rfl) (by simp) ?_
                refine AllReadyH.cons (o := { dst := some 92, op := Op.call { callee := Callee.value (Operand.func 22), args := #[Operand.tmp 90, Operand.tmp 91], argTypes := #[28, 28] }, type := 4, pos := "law.go:120", after := #[{ on := 0, ground := Ground.data }, { on := 1, ground := Ground.data }], guard := none }) rfl (fun K hK => ?_) AllReadyH.nil
                go_simp
                go_at_call 22
                refine (same_is (HS.out false rfl) A1.out.v A2.out.v).mono ?_
                rintro e wn ⟨rfl, hb⟩
                have A1' := Lib.hid (A1.out.below hb)
                have A2' := Lib.hid (A2.out.below hb)
                have C0' := Lib.hid (C0.out.below hb)
                have BB' := Lib.hid (BB.out.trans (hb.mono BB.out.size))
                clear A1
                have A1 := A1'
                clear A1'
                clear A2
                have A2 := A2'
                clear A2'
                clear C0
                have C0 := C0'
                clear C0'
                clear BB
                have BB := BB'
                clear BB'
                clear hb
                go_simp
                refine hK.out _ _ ?_ (fun hHeld => ?_)
                · exact ⟨A1.out.cell, A2.out.cell, C0.out.c1⟩
                clear hK K
                (try simp only [Act.put])
                (try simp only [List.setIfInBounds_toArray])
                (try simp only [List.set_cons_succ])
                (try simp only [List.set_cons_zero])
                refine wpAnyH_ready (rs := [5]) (by kernel_rfl) (by simp) ?_
                refine AllReadyH.cons (o := { dst := some 95, op := Op.call { callee := Callee.value (Operand.func 20), args := #[Operand.tmp 93, Operand.tmp 94], argTypes := #[28, 28] }, type := 28, pos := "law.go:120", after := #[{ on := 3, ground := Ground.data }, { on := 4, ground := Ground.data }, { on := 2, ground := Ground.chain }], guard := none }) rfl (fun K hK => ?_) AllReadyH.nil
                go_simp
                go_at_call 20
                refine (join_any _ _ _ _ _ A1.out.v A2.out.v).mono ?_
                rintro e wn ⟨q, hq, rfl, va, hb⟩
                have A1' := Lib.hid (A1.out.below hb)
                have A2' := Lib.hid (A2.out.below hb)
                have C0' := Lib.hid (C0.out.below hb)
                have BB' := Lib.hid (BB.out.trans (hb.mono BB.out.size))
                clear A1
                have A1 := A1'
                clear A1'
                clear A2
                have A2 := A2'
                clear A2'
                clear C0
                have C0 := C0'
                clear C0'
                clear BB
                have BB := BB'
                clear BB'
                clear hb
                clear hq
                have VJ := Lib.hid va
                clear va
                go_simp
                refine hK.out _ _ ?_ (fun hHeld => ?_)
                · exact ⟨A1.out.cell, A2.out.cell, C0.out.c1⟩
                clear hK K
                (try simp only [Act.put])
                (try simp only [List.setIfInBounds_toArray])
                (try simp only [List.set_cons_succ])
                (try simp only [List.set_cons_zero])
                refine wpAnyH_ready (rs := [10]) (by kernel_rfl) (by simp) ?_
                refine AllReadyH.cons (o := { dst := some 100, op := Op.call { callee := Callee.value (Operand.func 14), args := #[Operand.tmp 95, Operand.tmp 99], argTypes := #[28, 23] }, type := 3, pos := "law.go:120", after := #[{ on := 5, ground := Ground.data }, { on := 9, ground := Ground.data }, { on := 5, ground := Ground.chain }], guard := none }) rfl (fun K hK => ?_) AllReadyH.nil
                go_simp
                go_at_call 14
                refine (at_isB x0 x1 CU.out VJ.out).mono ?_
                rintro e wn ⟨rfl, hb⟩
                have A1' := Lib.hid (A1.out.below hb)
                have A2' := Lib.hid (A2.out.below hb)
                have C0' := Lib.hid (C0.out.below hb)
                have VJ' := Lib.hid (VJ.out.below hb)
                have BB' := Lib.hid (BB.out.trans (hb.mono BB.out.size))
                clear A1
                have A1 := A1'
                clear A1'
                clear A2
                have A2 := A2'
                clear A2'
                clear C0
                have C0 := C0'
                clear C0'
                clear VJ
                have VJ := VJ'
                clear VJ'
                clear BB
                have BB := BB'
                clear BB'
                clear hb
                go_simp
                refine hK.out _ _ ?_ (fun hHeld => ?_)
                · exact ⟨A1.out.cell, A2.out.cell, C0.out.c1⟩
                clear hK K
                (try simp only [Act.put])
                (try simp only [List.setIfInBounds_toArray])
                (try simp only [List.set_cons_succ])
                (try simp only [List.set_cons_zero])
                refine wpAnyH_ready (rs := [16]) (by kernel_rfl) (by simp) ?_
                refine AllReadyH.cons (o := { dst := some 106, op := Op.call { callee := Callee.value (Operand.func 14), args := #[Operand.tmp 101, Operand.tmp 105], argTypes := #[28, 23] }, type := 3, pos := "law.go:120", after := #[{ on := 11, ground := Ground.data }, { on := 15, ground := Ground.data }, { on := 10, ground := Ground.chain }], guard := none }) rfl (fun K hK => ?_) AllReadyH.nil
                go_simp
                go_at_call 14
                refine (at_isB x0 x1 CV.out A2.out.v).mono ?_
                rintro e wn ⟨rfl, hb⟩
                have A1' := Lib.hid (A1.out.below hb)
                have A2' := Lib.hid (A2.out.below hb)
                have C0' := Lib.hid (C0.out.below hb)
                have VJ' := Lib.hid (VJ.out.below hb)
                have BB' := Lib.hid (BB.out.trans (hb.mono BB.out.size))
                clear A1
                have A1 := A1'
                clear A1'
                clear A2
                have A2 := A2'
                clear A2'
                clear C0
                have C0 := C0'
                clear C0'
                clear VJ
                have VJ := VJ'
                clear VJ'
                clear BB
                have BB := BB'
                clear BB'
                clear hb
                go_simp
                refine hK.out _ _ ?_ (fun hHeld => ?_)
                · exact ⟨A1.out.cell, A2.out.cell, C0.out.c1⟩
                clear hK K
                (try simp only [Act.put])
                (try simp only [List.setIfInBounds_toArray])
                (try simp only [List.set_cons_succ])
                (try simp only [List.set_cons_zero])
                refine wpAnyH_take (i := 17) (oi := { dst := some 107, op := Op.binOp BinOp.eql 3 (Operand.tmp 100) (Operand.tmp 106) 3, type := 4, pos := "law.go:120", after := #[{ on := 10, ground := Ground.data }, { on := 16, ground := Ground.data }], guard := none }) (v := ?ev17) rfl (by kernel_rfl) (by kernel_rfl) (by kernel_rfl) (fun _ _ _ h => h) (Or.inl ⟨by rfl, ?ey17⟩) (by assumption) ?er17
                case ey17 => (intro w hSw; (try dsimp only at hSw); go_simp; try with_reducible rfl)
                (try simp only [Act.put])
                (try simp only [List.setIfInBounds_toArray])
                (try simp only [List.set_cons_succ])
                (try simp only [List.set_cons_zero])
                refine wpAnyH_take (i := 18) (oi := { dst := some 108, op := Op.move (Operand.tmp 107), type := 4, pos := "law.go:120", after := #[{ on := 17, ground := Ground.data }, { on := 16, ground := Ground.chain }], guard := none }) (v := ?ev18) rfl (by kernel_rfl) (by kernel_rfl) (by kernel_rfl) (fun _ _ _ h => h) (Or.inl ⟨by rfl, ?ey18⟩) (by assumption) ?er18
                case ey18 => (intro w hSw; (try dsimp only at hSw); go_simp; try with_reducible rfl)
                (try simp only [Act.put])
                (try simp only [List.setIfInBounds_toArray])
                (try simp only [List.set_cons_succ])
                (try simp only [List.set_cons_zero])
                refine wpAnyH_take (i := 19) (oi := { dst := some 109, op := Op.load 28 (Operand.tmp 9), type := 28, pos := "law.go:120", after := #[{ on := 18, ground := Ground.guard }], guard := some (18, true) }) (v := ?ev19) rfl (by kernel_rfl) (by kernel_rfl) (by kernel_rfl) (fun _ _ _ h => h) (Or.inl ⟨by rfl, ?ey19⟩) (by assumption) ?er19
                case ey19 => (intro w hSw; (try dsimp only at hSw); go_simp; try with_reducible rfl)
                (try simp only [Act.put])
                (try simp only [List.setIfInBounds_toArray])
                (try simp only [List.set_cons_succ])
                (try simp only [List.set_cons_zero])
                refine wpAnyH_take (i := 20) (oi := { dst := some 110, op := Op.load 28 (Operand.tmp 11), type := 28, pos := "law.go:120", after := #[{ on := 18, ground := Ground.guard }], guard := some (18, true) }) (v := ?ev20) rfl (by kernel_rfl) (by kernel_rfl) (by kernel_rfl) (fun _ _ _ h => h) (Or.inl ⟨by rfl, ?ey20⟩) (by assumption) ?er20
                case ey20 => (intro w hSw; (try dsimp only at hSw); go_simp; try with_reducible rfl)
                (try simp only [Act.put])
                (try simp only [List.setIfInBounds_toArray])
                (try simp only [List.set_cons_succ])
                (try simp only [List.set_cons_zero])
                refine wpAnyH_ready (rs := [21]) (by kernel_rfl) (by simp) ?_
                refine AllReadyH.cons (o := { dst := some 111, op := Op.call { callee := Callee.value (Operand.func 18), args := #[Operand.tmp 109, Operand.tmp 110], argTypes := #[28, 28] }, type := 4, pos := "law.go:120", after := #[{ on := 19, ground := Ground.data }, { on := 20, ground := Ground.data }, { on := 18, ground := Ground.chain }, { on := 18, ground := Ground.guard }], guard := some (18, true) }) rfl (fun K hK => ?_) AllReadyH.nil
                go_simp
                go_at_call 18
                refine (below_is C1.out A1.out.v A2.out.v).mono ?_
                rintro e wn ⟨rfl, hb⟩
                have A1' := Lib.hid (A1.out.below hb)
                have A2' := Lib.hid (A2.out.below hb)
                have C0' := Lib.hid (C0.out.below hb)
                have VJ' := Lib.hid (VJ.out.below hb)
                have BB' := Lib.hid (BB.out.trans (hb.mono BB.out.size))
                clear A1
                have A1 := A1'
                clear A1'
                clear A2
                have A2 := A2'
                clear A2'
                clear C0
                have C0 := C0'
                clear C0'
                clear VJ
                have VJ := VJ'
                clear VJ'
                clear BB
                have BB := BB'
                clear BB'
                clear hb
                go_simp
                refine hK.out _ _ ?_ (fun hHeld => ?_)
                · exact ⟨A1.out.cell, A2.out.cell, C0.out.c1⟩
                clear hK K
                (try simp only [Act.put])
                (try simp only [List.setIfInBounds_toArray])
                (try simp only [List.set_cons_succ])
                (try simp only [List.set_cons_zero])
                refine wpAnyH_take (i := 22) (oi := { dst := some 112, op := Op.pick (Operand.tmp 108) (Operand.tmp 111) (Operand.const (Value.bool false)), type := 4, pos := "law.go:120", after := #[{ on := 18, ground := Ground.data }, { on := 21, ground := Ground.data }], guard := none }) (v := ?ev22) rfl (by kernel_rfl) (by kernel_rfl) (by kernel_rfl) (fun _ _ _ h => h) (Or.inl ⟨by rfl, ?ey22⟩) (by assumption) ?er22
                case ey22 => (intro w hSw; (try dsimp only at hSw); go_simp; try with_reducible rfl)
                (try simp only [Act.put])
                (try simp only [List.setIfInBounds_toArray])
                (try simp only [List.set_cons_succ])
                (try simp only [List.set_cons_zero])
                refine wpAnyH_take (i := 23) (oi := { dst := some 113, op := Op.move (Operand.tmp 112), type := 4, pos := "law.go:120", after := #[{ on := 22, ground := Ground.data }, { on := 21, ground := Ground.chain }], guard := none }) (v := ?ev23) rfl (by kernel_rfl) (by kernel_rfl) (by kernel_rfl) (fun _ _ _ h => h) (Or.inl ⟨by rfl, ?ey23⟩) (by assumption) ?er23
                case ey23 => (intro w hSw; (try dsimp only at hSw); go_simp; try with_reducible rfl)
                (try simp only [Act.put])
                (try simp only [List.setIfInBounds_toArray])
                (try simp only [List.set_cons_succ])
                (try simp only [List.set_cons_zero])
                refine wpAnyH_take (i := 24) (oi := { dst := some 114, op := Op.load 28 (Operand.tmp 11), type := 28, pos := "law.go:120", after := #[{ on := 23, ground := Ground.guard }], guard := some (23, true) }) (v := ?ev24) rfl (by kernel_rfl) (by kernel_rfl) (by kernel_rfl) (fun _ _ _ h => h) (Or.inl ⟨by rfl, ?ey24⟩) (by assumption) ?er24
                case ey24 => (intro w hSw; (try dsimp only at hSw); go_simp; try with_reducible rfl)
                (try simp only [Act.put])
                (try simp only [List.setIfInBounds_toArray])
                (try simp only [List.set_cons_succ])
                (try simp only [List.set_cons_zero])
                refine wpAnyH_take (i := 25) (oi := { dst := some 115, op := Op.load 28 (Operand.tmp 9), type := 28, pos := "law.go:120", after := #[{ on := 23, ground := Ground.guard }], guard := some (23, true) }) (v := ?ev25) rfl (by kernel_rfl) (by kernel_rfl) (by kernel_rfl) (fun _ _ _ h => h) (Or.inl ⟨by rfl, ?ey25⟩) (by assumption) ?er25
                case ey25 => (intro w hSw; (try dsimp only at hSw); go_simp; try with_reducible rfl)
                (try simp only [Act.put])
                (try simp only [List.setIfInBounds_toArray])
                (try simp only [List.set_cons_succ])
                (try simp only [List.set_cons_zero])
                refine wpAnyH_ready (rs := [26]) (by kernel_rfl) (by simp) ?_
                refine AllReadyH.cons (o := { dst := some 116, op := Op.call { callee := Callee.value (Operand.func 18), args := #[Operand.tmp 114, Operand.tmp 115], argTypes := #[28, 28] }, type := 4, pos := "law.go:120", after := #[{ on := 24, ground := Ground.data }, { on := 25, ground := Ground.data }, { on := 23, ground := Ground.chain }, { on := 23, ground := Ground.guard }], guard := some (23, true) }) rfl (fun K hK => ?_) AllReadyH.nil
                go_simp
                go_at_call 18
                refine (below_is C2.out A2.out.v A1.out.v).mono ?_
                rintro e wn ⟨rfl, hb⟩
                have A1' := Lib.hid (A1.out.below hb)
                have A2' := Lib.hid (A2.out.below hb)
                have C0' := Lib.hid (C0.out.below hb)
                have VJ' := Lib.hid (VJ.out.below hb)
                have BB' := Lib.hid (BB.out.trans (hb.mono BB.out.size))
                clear A1
                have A1 := A1'
                clear A1'
                clear A2
                have A2 := A2'
                clear A2'
                clear C0
                have C0 := C0'
                clear C0'
                clear VJ
                have VJ := VJ'
                clear VJ'
                clear BB
                have BB := BB'
                clear BB'
                clear hb
                go_simp
                refine hK.out _ _ ?_ (fun hHeld => ?_)
                · exact ⟨A1.out.cell, A2.out.cell, C0.out.c1⟩
                clear hK K
                (try simp only [Act.put])
                (try simp only [List.setIfInBounds_toArray])
                (try simp only [List.set_cons_succ])
                (try simp only [List.set_cons_zero])
                refine wpAnyH_take (i := 27) (oi := { dst := some 117, op := Op.pick (Operand.tmp 113) (Operand.tmp 116) (Operand.const (Value.bool false)), type := 4, pos := "law.go:120", after := #[{ on := 23, ground := Ground.data }, { on := 26, ground := Ground.data }], guard := none }) (v := ?ev27) rfl (by kernel_rfl) (by kernel_rfl) (by kernel_rfl) (fun _ _ _ h => h) (Or.inl ⟨by rfl, ?ey27⟩) (by assumption) ?er27
                case ey27 => (intro w hSw; (try dsimp only at hSw); go_simp; try with_reducible rfl)
                (try simp only [Act.put])
                (try simp only [List.setIfInBounds_toArray])
                (try simp only [List.set_cons_succ])
                (try simp only [List.set_cons_zero])
                refine wpAnyH_take (i := 28) (oi := { dst := some 118, op := Op.binOp BinOp.eql 4 (Operand.tmp 92) (Operand.tmp 117) 4, type := 4, pos := "law.go:120", after := #[{ on := 2, ground := Ground.data }, { on := 27, ground := Ground.data }], guard := none }) (v := ?ev28) rfl (by kernel_rfl) (by kernel_rfl) (by kernel_rfl) (fun _ _ _ h => h) (Or.inl ⟨by rfl, ?ey28⟩) (by assumption) ?er28
                case ey28 => (intro w hSw; (try dsimp only at hSw); go_simp; try with_reducible rfl)
                (try simp only [Act.put])
                (try simp only [List.setIfInBounds_toArray])
                (try simp only [List.set_cons_succ])
                (try simp only [List.set_cons_zero])
                refine wpAnyH_take (i := 29) (oi := { dst := some 119, op := Op.move (Operand.tmp 118), type := 4, pos := "law.go:120", after := #[{ on := 28, ground := Ground.data }, { on := 26, ground := Ground.chain }], guard := none }) (v := ?ev29) rfl (by kernel_rfl) (by kernel_rfl) (by kernel_rfl) (fun _ _ _ h => h) (Or.inl ⟨by rfl, ?ey29⟩) (by assumption) ?er29
                case ey29 => (intro w hSw; (try dsimp only at hSw); go_simp; try with_reducible rfl)
                (try simp only [Act.put])
                (try simp only [List.setIfInBounds_toArray])
                (try simp only [List.set_cons_succ])
                (try simp only [List.set_cons_zero])
                refine wpAnyH_ready (rs := [30]) (by kernel_rfl) (by simp) ?_
                refine AllReadyH.cons (o := { dst := some 120, op := Op.call { callee := Callee.value (Operand.func 11), args := #[], argTypes := #[] }, type := 4, pos := "law.go:120", after := #[{ on := 29, ground := Ground.chain }, { on := 29, ground := Ground.guard }], guard := some (29, true) }) rfl (fun K hK => ?_) AllReadyH.nil
                go_simp
                go_at_call 11
                refine (awake_any _).mono ?_
                rintro e wn ⟨rfl, hb⟩
                have A1' := Lib.hid (A1.out.below hb)
                have A2' := Lib.hid (A2.out.below hb)
                have C0' := Lib.hid (C0.out.below hb)
                have VJ' := Lib.hid (VJ.out.below hb)
                have BB' := Lib.hid (BB.out.trans (hb.mono BB.out.size))
                clear A1
                have A1 := A1'
                clear A1'
                clear A2
                have A2 := A2'
                clear A2'
                clear C0
                have C0 := C0'
                clear C0'
                clear VJ
                have VJ := VJ'
                clear VJ'
                clear BB
                have BB := BB'
                clear BB'
                clear hb
                go_simp
                refine hK.out _ _ ?_ (fun hHeld => ?_)
                · exact ⟨A1.out.cell, A2.out.cell, C0.out.c1⟩
                clear hK K
                (try simp only [Act.put])
                (try simp only [List.setIfInBounds_toArray])
                (try simp only [List.set_cons_succ])
                (try simp only [List.set_cons_zero])
                refine wpAnyH_take (i := 31) (oi := { dst := some 121, op := Op.pick (Operand.tmp 119) (Operand.tmp 120) (Operand.const (Value.bool false)), type := 4, pos := "law.go:120", after := #[{ on := 29, ground := Ground.data }, { on := 30, ground := Ground.data }], guard := none }) (v := ?ev31) rfl (by kernel_rfl) (by kernel_rfl) (by kernel_rfl) (fun _ _ _ h => h) (Or.inl ⟨by rfl, ?ey31⟩) (by assumption) ?er31
                case ey31 => (intro w hSw; (try dsimp only at hSw); go_simp; try with_reducible rfl)
                (try simp only [Act.put])
                (try simp only [List.setIfInBounds_toArray])
                (try simp only [List.set_cons_succ])
                (try simp only [List.set_cons_zero])
                refine wpAnyH_ready (rs := [32]) (by kernel_rfl) (by simp) ?_
                refine AllReadyH.cons (o := _) rfl (fun K hK => ?_) AllReadyH.nil
                go_simp
                refine hK.out _ _ ?_ (fun hHeld => ?_)
                · exact ⟨A1.out.cell, A2.out.cell, C0.out.c1⟩
                clear hK K
                (try simp only [Act.put])
                (try simp only [List.setIfInBounds_toArray])
                (try simp only [List.set_cons_succ])
                (try simp only [List.set_cons_zero])
                refine wpAnyH_done (by kernel_rfl) ?_ _
                go_wp2
                go_ret
                exact ⟨rfl, BB.out⟩
              · skip
                have A1' := Lib.hid (A1.out.below (Below.refl _ _).drew)
                have A2' := Lib.hid (A2.out.below (Below.refl _ _).drew)
                have C0' := Lib.hid (C0.out.below (Below.refl _ _).drew)
                have A3' := Lib.hid (A3.out.below (Below.refl _ _).drew)
                have BB' := Lib.hid (BB.out.drew)
                clear A1
                have A1 := A1'
                clear A1'
                clear A2
                have A2 := A2'
                clear A2'
                clear C0
                have C0 := C0'
                clear C0'
                clear A3
                have A3 := A3'
                clear A3'
                clear BB
                have BB := BB'
                clear BB'
                refine wp_region_held_drew (S := fun w' => w'.cell? ⟨b1, 0, none⟩ = some (.map p1) ∧ w'.cell? ⟨b2, 0, none⟩ = some (.map p2) ∧ w'.cell? ⟨b3, 0, none⟩ = some (.map p3)) (by kernel_rfl) ⟨A1.out.cell, A2.out.cell, A3.out.cell⟩ (fun hHeld => ?_)
                refine wpAnyH_take (i := 0) (oi := { dst := some 66, op := Op.load 28 (Operand.tmp 9), type := 28, pos := "law.go:117", after := #[], guard := none }) (v := ?fv0) rfl (by kernel_rfl) (by kernel_rfl) (by kernel_rfl) (fun _ _ _ h => h) (Or.inl ⟨by rfl, ?fy0⟩) (by assumption) ?fr0
                case fy0 => (intro w hSw; (try dsimp only at hSw); go_simp; try with_reducible rfl)
                (try simp only [Act.put])
                (try simp only [List.setIfInBounds_toArray])
                (try simp only [List.set_cons_succ])
                (try simp only [List.set_cons_zero])
                refine wpAnyH_take (i := 1) (oi := { dst := some 67, op := Op.load 28 (Operand.tmp 13), type := 28, pos := "law.go:117", after := #[], guard := none }) (v := ?fv1) rfl (by kernel_rfl) (by kernel_rfl) (by kernel_rfl) (fun _ _ _ h => h) (Or.inl ⟨by rfl, ?fy1⟩) (by assumption) ?fr1
                case fy1 => (intro w hSw; (try dsimp only at hSw); go_simp; try with_reducible rfl)
                (try simp only [Act.put])
                (try simp only [List.setIfInBounds_toArray])
                (try simp only [List.set_cons_succ])
                (try simp only [List.set_cons_zero])
                refine wpAnyH_ready (rs := [2]) (by kernel_rfl) (by simp) ?_
                refine AllReadyH.cons (o := { dst := some 68, op := Op.call { callee := Callee.value (Operand.func 22), args := #[Operand.tmp 66, Operand.tmp 67], argTypes := #[28, 28] }, type := 4, pos := "law.go:117", after := #[{ on := 0, ground := Ground.data }, { on := 1, ground := Ground.data }], guard := none }) rfl (fun K hK => ?_) AllReadyH.nil
                go_simp
                go_at_call 22
                refine (same_is (r := true) (by simp) A1.out.v A3.out.v).mono ?_
                rintro e wn ⟨rfl, hb⟩
                have A1' := Lib.hid (A1.out.below hb)
                have A2' := Lib.hid (A2.out.below hb)
                have C0' := Lib.hid (C0.out.below hb)
                have A3' := Lib.hid (A3.out.below hb)
                have BB' := Lib.hid (BB.out.trans (hb.mono BB.out.size))
                clear A1
                have A1 := A1'
                clear A1'
                clear A2
                have A2 := A2'
                clear A2'
                clear C0
                have C0 := C0'
                clear C0'
                clear A3
                have A3 := A3'
                clear A3'
                clear BB
                have BB := BB'
                clear BB'
                clear hb
                go_simp
                refine hK.out _ _ ?_ (fun hHeld => ?_)
                · exact ⟨A1.out.cell, A2.out.cell, A3.out.cell⟩
                clear hK K
                (try simp only [Act.put])
                (try simp only [List.setIfInBounds_toArray])
                (try simp only [List.set_cons_succ])
                (try simp only [List.set_cons_zero])
                refine wpAnyH_take (i := 3) (oi := { dst := some 69, op := Op.unOp UnOp.not 4 (Operand.tmp 68), type := 4, pos := "law.go:117", after := #[{ on := 2, ground := Ground.data }], guard := none }) (v := ?fv3) rfl (by kernel_rfl) (by kernel_rfl) (by kernel_rfl) (fun _ _ _ h => h) (Or.inl ⟨by rfl, ?fy3⟩) (by assumption) ?fr3
                case fy3 => (intro w hSw; (try dsimp only at hSw); go_simp; try with_reducible rfl)
                (try simp only [Act.put])
                (try simp only [List.setIfInBounds_toArray])
                (try simp only [List.set_cons_succ])
                (try simp only [List.set_cons_zero])
                refine wpAnyH_take (i := 4) (oi := { dst := some 70, op := Op.move (Operand.tmp 69), type := 4, pos := "law.go:117", after := #[{ on := 3, ground := Ground.data }, { on := 2, ground := Ground.chain }], guard := none }) (v := ?fv4) rfl (by kernel_rfl) (by kernel_rfl) (by kernel_rfl) (fun _ _ _ h => h) (Or.inl ⟨by rfl, ?fy4⟩) (by assumption) ?fr4
                case fy4 => (intro w hSw; (try dsimp only at hSw); go_simp; try with_reducible rfl)
                (try simp only [Act.put])
                (try simp only [List.setIfInBounds_toArray])
                (try simp only [List.set_cons_succ])
                (try simp only [List.set_cons_zero])
                refine wpAnyH_take (i := 5) (oi := { dst := some 71, op := Op.load 28 (Operand.tmp 9), type := 28, pos := "law.go:117", after := #[{ on := 4, ground := Ground.guard }], guard := some (4, false) }) (v := ?fv5) rfl (by kernel_rfl) (by kernel_rfl) (by kernel_rfl) (fun _ _ _ h => h) (Or.inl ⟨by rfl, ?fy5⟩) (by assumption) ?fr5
                case fy5 => (intro w hSw; (try dsimp only at hSw); go_simp; try with_reducible rfl)
                (try simp only [Act.put])
                (try simp only [List.setIfInBounds_toArray])
                (try simp only [List.set_cons_succ])
                (try simp only [List.set_cons_zero])
                refine wpAnyH_take (i := 6) (oi := { dst := some 72, op := Op.load 28 (Operand.tmp 9), type := 28, pos := "law.go:117", after := #[{ on := 4, ground := Ground.guard }], guard := some (4, false) }) (v := ?fv6) rfl (by kernel_rfl) (by kernel_rfl) (by kernel_rfl) (fun _ _ _ h => h) (Or.inl ⟨by rfl, ?fy6⟩) (by assumption) ?fr6
                case fy6 => (intro w hSw; (try dsimp only at hSw); go_simp; try with_reducible rfl)
                (try simp only [Act.put])
                (try simp only [List.setIfInBounds_toArray])
                (try simp only [List.set_cons_succ])
                (try simp only [List.set_cons_zero])
                refine wpAnyH_ready (rs := [7]) (by kernel_rfl) (by simp) ?_
                refine AllReadyH.cons (o := { dst := some 73, op := Op.call { callee := Callee.value (Operand.func 18), args := #[Operand.tmp 71, Operand.tmp 72], argTypes := #[28, 28] }, type := 4, pos := "law.go:117", after := #[{ on := 5, ground := Ground.data }, { on := 6, ground := Ground.data }, { on := 4, ground := Ground.chain }, { on := 4, ground := Ground.guard }], guard := some (4, false) }) rfl (fun K hK => ?_) AllReadyH.nil
                go_simp
                go_at_call 18
                refine (below_is (r := true) (below_refl M0.out) A1.out.v A1.out.v).mono ?_
                rintro e wn ⟨rfl, hb⟩
                have A1' := Lib.hid (A1.out.below hb)
                have A2' := Lib.hid (A2.out.below hb)
                have C0' := Lib.hid (C0.out.below hb)
                have A3' := Lib.hid (A3.out.below hb)
                have BB' := Lib.hid (BB.out.trans (hb.mono BB.out.size))
                clear A1
                have A1 := A1'
                clear A1'
                clear A2
                have A2 := A2'
                clear A2'
                clear C0
                have C0 := C0'
                clear C0'
                clear A3
                have A3 := A3'
                clear A3'
                clear BB
                have BB := BB'
                clear BB'
                clear hb
                go_simp
                refine hK.out _ _ ?_ (fun hHeld => ?_)
                · exact ⟨A1.out.cell, A2.out.cell, A3.out.cell⟩
                clear hK K
                (try simp only [Act.put])
                (try simp only [List.setIfInBounds_toArray])
                (try simp only [List.set_cons_succ])
                (try simp only [List.set_cons_zero])
                refine wpAnyH_take (i := 8) (oi := { dst := some 74, op := Op.unOp UnOp.not 4 (Operand.tmp 73), type := 4, pos := "law.go:117", after := #[{ on := 7, ground := Ground.data }, { on := 4, ground := Ground.guard }], guard := some (4, false) }) (v := ?fv8) rfl (by kernel_rfl) (by kernel_rfl) (by kernel_rfl) (fun _ _ _ h => h) (Or.inl ⟨by rfl, ?fy8⟩) (by assumption) ?fr8
                case fy8 => (intro w hSw; (try dsimp only at hSw); go_simp; try with_reducible rfl)
                (try simp only [Act.put])
                (try simp only [List.setIfInBounds_toArray])
                (try simp only [List.set_cons_succ])
                (try simp only [List.set_cons_zero])
                refine wpAnyH_take (i := 9) (oi := { dst := some 75, op := Op.pick (Operand.tmp 70) (Operand.const (Value.bool true)) (Operand.tmp 74), type := 4, pos := "law.go:117", after := #[{ on := 4, ground := Ground.data }, { on := 8, ground := Ground.data }], guard := none }) (v := ?fv9) rfl (by kernel_rfl) (by kernel_rfl) (by kernel_rfl) (fun _ _ _ h => h) (Or.inl ⟨by rfl, ?fy9⟩) (by assumption) ?fr9
                case fy9 => (intro w hSw; (try dsimp only at hSw); go_simp; try with_reducible rfl)
                (try simp only [Act.put])
                (try simp only [List.setIfInBounds_toArray])
                (try simp only [List.set_cons_succ])
                (try simp only [List.set_cons_zero])
                refine wpAnyH_take (i := 10) (oi := { dst := some 76, op := Op.move (Operand.tmp 75), type := 4, pos := "law.go:117", after := #[{ on := 9, ground := Ground.data }, { on := 7, ground := Ground.chain }], guard := none }) (v := ?fv10) rfl (by kernel_rfl) (by kernel_rfl) (by kernel_rfl) (fun _ _ _ h => h) (Or.inl ⟨by rfl, ?fy10⟩) (by assumption) ?fr10
                case fy10 => (intro w hSw; (try dsimp only at hSw); go_simp; try with_reducible rfl)
                (try simp only [Act.put])
                (try simp only [List.setIfInBounds_toArray])
                (try simp only [List.set_cons_succ])
                (try simp only [List.set_cons_zero])
                refine wpAnyH_take (i := 11) (oi := { dst := some 77, op := Op.load 28 (Operand.tmp 9), type := 28, pos := "law.go:117", after := #[{ on := 10, ground := Ground.guard }], guard := some (10, false) }) (v := ?fv11) rfl (by kernel_rfl) (by kernel_rfl) (by kernel_rfl) (fun _ _ _ h => h) (Or.inl ⟨by rfl, ?fy11⟩) (by assumption) ?fr11
                case fy11 => (intro w hSw; (try dsimp only at hSw); go_simp; try with_reducible rfl)
                (try simp only [Act.put])
                (try simp only [List.setIfInBounds_toArray])
                (try simp only [List.set_cons_succ])
                (try simp only [List.set_cons_zero])
                refine wpAnyH_take (i := 12) (oi := { dst := some 78, op := Op.load 28 (Operand.tmp 11), type := 28, pos := "law.go:117", after := #[{ on := 10, ground := Ground.guard }], guard := some (10, false) }) (v := ?fv12) rfl (by kernel_rfl) (by kernel_rfl) (by kernel_rfl) (fun _ _ _ h => h) (Or.inl ⟨by rfl, ?fy12⟩) (by assumption) ?fr12
                case fy12 => (intro w hSw; (try dsimp only at hSw); go_simp; try with_reducible rfl)
                (try simp only [Act.put])
                (try simp only [List.setIfInBounds_toArray])
                (try simp only [List.set_cons_succ])
                (try simp only [List.set_cons_zero])
                refine wpAnyH_ready (rs := [13]) (by kernel_rfl) (by simp) ?_
                refine AllReadyH.cons (o := { dst := some 79, op := Op.call { callee := Callee.value (Operand.func 18), args := #[Operand.tmp 77, Operand.tmp 78], argTypes := #[28, 28] }, type := 4, pos := "law.go:117", after := #[{ on := 11, ground := Ground.data }, { on := 12, ground := Ground.data }, { on := 10, ground := Ground.chain }, { on := 10, ground := Ground.guard }], guard := some (10, false) }) rfl (fun K hK => ?_) AllReadyH.nil
                go_simp
                go_at_call 18
                refine (below_is C1.out A1.out.v A2.out.v).mono ?_
                rintro e wn ⟨rfl, hb⟩
                have A1' := Lib.hid (A1.out.below hb)
                have A2' := Lib.hid (A2.out.below hb)
                have C0' := Lib.hid (C0.out.below hb)
                have A3' := Lib.hid (A3.out.below hb)
                have BB' := Lib.hid (BB.out.trans (hb.mono BB.out.size))
                clear A1
                have A1 := A1'
                clear A1'
                clear A2
                have A2 := A2'
                clear A2'
                clear C0
                have C0 := C0'
                clear C0'
                clear A3
                have A3 := A3'
                clear A3'
                clear BB
                have BB := BB'
                clear BB'
                clear hb
                go_simp
                refine hK.out _ _ ?_ (fun hHeld => ?_)
                · exact ⟨A1.out.cell, A2.out.cell, A3.out.cell⟩
                clear hK K
                (try simp only [Act.put])
                (try simp only [List.setIfInBounds_toArray])
                (try simp only [List.set_cons_succ])
                (try simp only [List.set_cons_zero])
                refine wpAnyH_take (i := 14) (oi := { dst := some 80, op := Op.move (Operand.tmp 79), type := 4, pos := "law.go:117", after := #[{ on := 13, ground := Ground.data }, { on := 13, ground := Ground.chain }, { on := 10, ground := Ground.guard }], guard := some (10, false) }) (v := ?fv14) rfl (by kernel_rfl) (by kernel_rfl) (by kernel_rfl) (fun _ _ _ h => h) (Or.inl ⟨by rfl, ?fy14⟩) (by assumption) ?fr14
                case fy14 => (intro w hSw; (try dsimp only at hSw); go_simp; try with_reducible rfl)
                (try simp only [Act.put])
                (try simp only [List.setIfInBounds_toArray])
                (try simp only [List.set_cons_succ])
                (try simp only [List.set_cons_zero])
                refine wpAnyH_take (i := 15) (oi := { dst := some 81, op := Op.load 28 (Operand.tmp 11), type := 28, pos := "law.go:117", after := #[{ on := 14, ground := Ground.guard }], guard := some (14, true) }) (v := ?fv15) rfl (by kernel_rfl) (by kernel_rfl) (by kernel_rfl) (fun _ _ _ h => h) (Or.inl ⟨by rfl, ?fy15⟩) (by assumption) ?fr15
                case fy15 => (intro w hSw; (try dsimp only at hSw); go_simp; try with_reducible rfl)
                (try simp only [Act.put])
                (try simp only [List.setIfInBounds_toArray])
                (try simp only [List.set_cons_succ])
                (try simp only [List.set_cons_zero])
                refine wpAnyH_take (i := 16) (oi := { dst := some 82, op := Op.load 28 (Operand.tmp 9), type := 28, pos := "law.go:117", after := #[{ on := 14, ground := Ground.guard }], guard := some (14, true) }) (v := ?fv16) rfl (by kernel_rfl) (by kernel_rfl) (by kernel_rfl) (fun _ _ _ h => h) (Or.inl ⟨by rfl, ?fy16⟩) (by assumption) ?fr16
                case fy16 => (intro w hSw; (try dsimp only at hSw); go_simp; try with_reducible rfl)
                (try simp only [Act.put])
                (try simp only [List.setIfInBounds_toArray])
                (try simp only [List.set_cons_succ])
                (try simp only [List.set_cons_zero])
                refine wpAnyH_take (i := 18) (oi := { dst := some 84, op := Op.load 28 (Operand.tmp 9), type := 28, pos := "law.go:117", after := #[{ on := 14, ground := Ground.guard }], guard := some (14, true) }) (v := ?fv18) rfl (by kernel_rfl) (by kernel_rfl) (by kernel_rfl) (fun _ _ _ h => h) (Or.inl ⟨by rfl, ?fy18⟩) (by assumption) ?fr18
                case fy18 => (intro w hSw; (try dsimp only at hSw); go_simp; try with_reducible rfl)
                (try simp only [Act.put])
                (try simp only [List.setIfInBounds_toArray])
                (try simp only [List.set_cons_succ])
                (try simp only [List.set_cons_zero])
                refine wpAnyH_take (i := 19) (oi := { dst := some 85, op := Op.load 28 (Operand.tmp 11), type := 28, pos := "law.go:117", after := #[{ on := 14, ground := Ground.guard }], guard := some (14, true) }) (v := ?fv19) rfl (by kernel_rfl) (by kernel_rfl) (by kernel_rfl) (fun _ _ _ h => h) (Or.inl ⟨by rfl, ?fy19⟩) (by assumption) ?fr19
                case fy19 => (intro w hSw; (try dsimp only at hSw); go_simp; try with_reducible rfl)
                (try simp only [Act.put])
                (try simp only [List.setIfInBounds_toArray])
                (try simp only [List.set_cons_succ])
                (try simp only [List.set_cons_zero])
                refine wpAnyH_ready (rs := [17]) (by kernel_rfl) (by simp) ?_
                refine AllReadyH.cons (o := { dst := some 83, op := Op.call { callee := Callee.value (Operand.func 18), args := #[Operand.tmp 81, Operand.tmp 82], argTypes := #[28, 28] }, type := 4, pos := "law.go:117", after := #[{ on := 15, ground := Ground.data }, { on := 16, ground := Ground.data }, { on := 14, ground := Ground.chain }, { on := 14, ground := Ground.guard }], guard := some (14, true) }) rfl (fun K hK => ?_) AllReadyH.nil
                go_simp
                go_at_call 18
                refine (below_is C2.out A2.out.v A1.out.v).mono ?_
                rintro e wn ⟨rfl, hb⟩
                have A1' := Lib.hid (A1.out.below hb)
                have A2' := Lib.hid (A2.out.below hb)
                have C0' := Lib.hid (C0.out.below hb)
                have A3' := Lib.hid (A3.out.below hb)
                have BB' := Lib.hid (BB.out.trans (hb.mono BB.out.size))
                clear A1
                have A1 := A1'
                clear A1'
                clear A2
                have A2 := A2'
                clear A2'
                clear C0
                have C0 := C0'
                clear C0'
                clear A3
                have A3 := A3'
                clear A3'
                clear BB
                have BB := BB'
                clear BB'
                clear hb
                go_simp
                refine hK.out _ _ ?_ (fun hHeld => ?_)
                · exact ⟨A1.out.cell, A2.out.cell, A3.out.cell⟩
                clear hK K
                (try simp only [Act.put])
                (try simp only [List.setIfInBounds_toArray])
                (try simp only [List.set_cons_succ])
                (try simp only [List.set_cons_zero])
                refine wpAnyH_ready (rs := [20]) (by kernel_rfl) (by simp) ?_
                refine AllReadyH.cons (o := { dst := some 86, op := Op.call { callee := Callee.value (Operand.func 22), args := #[Operand.tmp 84, Operand.tmp 85], argTypes := #[28, 28] }, type := 4, pos := "law.go:117", after := #[{ on := 18, ground := Ground.data }, { on := 19, ground := Ground.data }, { on := 17, ground := Ground.chain }, { on := 14, ground := Ground.guard }], guard := some (14, true) }) rfl (fun K hK => ?_) AllReadyH.nil
                go_simp
                go_at_call 22
                refine (same_is (HS.out true rfl) A1.out.v A2.out.v).mono ?_
                rintro e wn ⟨rfl, hb⟩
                have A1' := Lib.hid (A1.out.below hb)
                have A2' := Lib.hid (A2.out.below hb)
                have C0' := Lib.hid (C0.out.below hb)
                have A3' := Lib.hid (A3.out.below hb)
                have BB' := Lib.hid (BB.out.trans (hb.mono BB.out.size))
                clear A1
                have A1 := A1'
                clear A1'
                clear A2
                have A2 := A2'
                clear A2'
                clear C0
                have C0 := C0'
                clear C0'
                clear A3
                have A3 := A3'
                clear A3'
                clear BB
                have BB := BB'
                clear BB'
                clear hb
                go_simp
                refine hK.out _ _ ?_ (fun hHeld => ?_)
                · exact ⟨A1.out.cell, A2.out.cell, A3.out.cell⟩
                clear hK K
                (try simp only [Act.put])
                (try simp only [List.setIfInBounds_toArray])
                (try simp only [List.set_cons_succ])
                (try simp only [List.set_cons_zero])
                refine wpAnyH_take (i := 21) (oi := { dst := some 87, op := Op.binOp BinOp.neq 4 (Operand.tmp 83) (Operand.tmp 86) 4, type := 4, pos := "law.go:117", after := #[{ on := 17, ground := Ground.data }, { on := 20, ground := Ground.data }, { on := 14, ground := Ground.guard }], guard := some (14, true) }) (v := ?fv21) rfl (by kernel_rfl) (by kernel_rfl) (by kernel_rfl) (fun _ _ _ h => h) (Or.inl ⟨by rfl, ?fy21⟩) (by assumption) ?fr21
                case fy21 => (intro w hSw; (try dsimp only at hSw); go_simp; try with_reducible rfl)
                (try simp only [Act.put])
                (try simp only [List.setIfInBounds_toArray])
                (try simp only [List.set_cons_succ])
                (try simp only [List.set_cons_zero])
                refine wpAnyH_take (i := 22) (oi := { dst := some 88, op := Op.pick (Operand.tmp 80) (Operand.tmp 87) (Operand.const (Value.bool false)), type := 4, pos := "law.go:117", after := #[{ on := 14, ground := Ground.data }, { on := 21, ground := Ground.data }, { on := 10, ground := Ground.guard }], guard := some (10, false) }) (v := ?fv22) rfl (by kernel_rfl) (by kernel_rfl) (by kernel_rfl) (fun _ _ _ h => h) (Or.inl ⟨by rfl, ?fy22⟩) (by assumption) ?fr22
                case fy22 => (intro w hSw; (try dsimp only at hSw); go_simp; try with_reducible rfl)
                (try simp only [Act.put])
                (try simp only [List.setIfInBounds_toArray])
                (try simp only [List.set_cons_succ])
                (try simp only [List.set_cons_zero])
                refine wpAnyH_take (i := 23) (oi := { dst := some 89, op := Op.pick (Operand.tmp 76) (Operand.const (Value.bool true)) (Operand.tmp 88), type := 4, pos := "law.go:117", after := #[{ on := 10, ground := Ground.data }, { on := 22, ground := Ground.data }], guard := none }) (v := ?fv23) rfl (by kernel_rfl) (by kernel_rfl) (by kernel_rfl) (fun _ _ _ h => h) (Or.inl ⟨by rfl, ?fy23⟩) (by assumption) ?fr23
                case fy23 => (intro w hSw; (try dsimp only at hSw); go_simp; try with_reducible rfl)
                (try simp only [Act.put])
                (try simp only [List.setIfInBounds_toArray])
                (try simp only [List.set_cons_succ])
                (try simp only [List.set_cons_zero])
                refine wpAnyH_done (by kernel_rfl) ?_ _
                go_wp2_with fail
                clear A3
                have A1' := Lib.hid (A1.out.below (Below.refl _ _).drew)
                have A2' := Lib.hid (A2.out.below (Below.refl _ _).drew)
                have C0' := Lib.hid (C0.out.below (Below.refl _ _).drew)
                have BB' := Lib.hid (BB.out.drew)
                clear A1
                have A1 := A1'
                clear A1'
                clear A2
                have A2 := A2'
                clear A2'
                clear C0
                have C0 := C0'
                clear C0'
                clear BB
                have BB := BB'
                clear BB'
                refine wp_region_held_drew (S := fun w' => w'.cell? ⟨b1, 0, none⟩ = some (.map p1) ∧ w'.cell? ⟨b2, 0, none⟩ = some (.map p2) ∧ w'.cell? ⟨sb, off, none⟩ = some (.int .i64 x)) (by kernel_rfl) ⟨A1.out.cell, A2.out.cell, C0.out.c1⟩ (fun hHeld => ?_)
                refine wpAnyH_take (i := 0) (oi := { dst := some 90, op := Op.load 28 (Operand.tmp 9), type := 28, pos := "law.go:120", after := #[], guard := none }) (v := ?gv0) rfl (by kernel_rfl) (by kernel_rfl) (by kernel_rfl) (fun _ _ _ h => h) (Or.inl ⟨by rfl, ?gy0⟩) (by assumption) ?gr0
                case gy0 => (intro w hSw; (try dsimp only at hSw); go_simp; try with_reducible rfl)
                (try simp only [Act.put])
                (try simp only [List.setIfInBounds_toArray])
                (try simp only [List.set_cons_succ])
                (try simp only [List.set_cons_zero])
                refine wpAnyH_take (i := 1) (oi := { dst := some 91, op := Op.load 28 (Operand.tmp 11), type := 28, pos := "law.go:120", after := #[], guard := none }) (v := ?gv1) rfl (by kernel_rfl) (by kernel_rfl) (by kernel_rfl) (fun _ _ _ h => h) (Or.inl ⟨by rfl, ?gy1⟩) (by assumption) ?gr1
                case gy1 => (intro w hSw; (try dsimp only at hSw); go_simp; try with_reducible rfl)
                (try simp only [Act.put])
                (try simp only [List.setIfInBounds_toArray])
                (try simp only [List.set_cons_succ])
                (try simp only [List.set_cons_zero])
                refine wpAnyH_take (i := 3) (oi := { dst := some 93, op := Op.load 28 (Operand.tmp 9), type := 28, pos := "law.go:120", after := #[], guard := none }) (v := ?gv3) rfl (by kernel_rfl) (by kernel_rfl) (by kernel_rfl) (fun _ _ _ h => h) (Or.inl ⟨by rfl, ?gy3⟩) (by assumption) ?gr3
                case gy3 => (intro w hSw; (try dsimp only at hSw); go_simp; try with_reducible rfl)
                (try simp only [Act.put])
                (try simp only [List.setIfInBounds_toArray])
                (try simp only [List.set_cons_succ])
                (try simp only [List.set_cons_zero])
                refine wpAnyH_take (i := 4) (oi := { dst := some 94, op := Op.load 28 (Operand.tmp 11), type := 28, pos := "law.go:120", after := #[], guard := none }) (v := ?gv4) rfl (by kernel_rfl) (by kernel_rfl) (by kernel_rfl) (fun _ _ _ h => h) (Or.inl ⟨by rfl, ?gy4⟩) (by assumption) ?gr4
                case gy4 => (intro w hSw; (try dsimp only at hSw); go_simp; try with_reducible rfl)
                (try simp only [Act.put])
                (try simp only [List.setIfInBounds_toArray])
                (try simp only [List.set_cons_succ])
                (try simp only [List.set_cons_zero])
                refine wpAnyH_take (i := 6) (oi := { dst := some 96, op := Op.move (Operand.tmp 0), type := 22, pos := "law.go:120", after := #[], guard := none }) (v := ?gv6) rfl (by kernel_rfl) (by kernel_rfl) (by kernel_rfl) (fun _ _ _ h => h) (Or.inl ⟨by rfl, ?gy6⟩) (by assumption) ?gr6
                case gy6 => (intro w hSw; (try dsimp only at hSw); go_simp; try with_reducible rfl)
                (try simp only [Act.put])
                (try simp only [List.setIfInBounds_toArray])
                (try simp only [List.set_cons_succ])
                (try simp only [List.set_cons_zero])
                refine wpAnyH_take (i := 7) (oi := { dst := some 97, op := Op.indexAddr 22 (Operand.tmp 96) (Operand.const (Value.int IntKind.i64 0)), type := 0, pos := "law.go:120", after := #[{ on := 6, ground := Ground.data }], guard := none }) (v := ?gv7) rfl (by kernel_rfl) (by kernel_rfl) (by kernel_rfl) (fun _ _ _ h => h) (Or.inl ⟨by rfl, ?gy7⟩) (by assumption) ?gr7
                case gy7 => (intro w hSw; (try dsimp only at hSw); go_simp; try with_reducible rfl)
                (try simp only [Act.put])
                (try simp only [List.setIfInBounds_toArray])
                (try simp only [List.set_cons_succ])
                (try simp only [List.set_cons_zero])
                refine wpAnyH_take (i := 8) (oi := { dst := some 98, op := Op.fieldAddr 37 (Operand.tmp 97) 0, type := 0, pos := "law.go:120", after := #[{ on := 7, ground := Ground.data }], guard := none }) (v := ?gv8) rfl (by kernel_rfl) (by kernel_rfl) (by kernel_rfl) (fun _ _ _ h => h) (Or.inl ⟨by rfl, ?gy8⟩) (by assumption) ?gr8
                case gy8 => (intro w hSw; (try dsimp only at hSw); go_simp; try with_reducible rfl)
                (try simp only [Act.put])
                (try simp only [List.setIfInBounds_toArray])
                (try simp only [List.set_cons_succ])
                (try simp only [List.set_cons_zero])
                refine wpAnyH_take (i := 9) (oi := { dst := some 99, op := Op.load 23 (Operand.tmp 98), type := 23, pos := "law.go:120", after := #[{ on := 8, ground := Ground.data }], guard := none }) (v := ?gv9) rfl (by kernel_rfl) (by kernel_rfl) (by kernel_rfl) (fun _ _ _ h => h) (Or.inl ⟨by rfl, ?gy9⟩) (by assumption) ?gr9
                case gy9 => (intro w hSw; (try dsimp only at hSw); go_simp; try with_reducible rfl)
                (try simp only [Act.put])
                (try simp only [List.setIfInBounds_toArray])
                (try simp only [List.set_cons_succ])
                (try simp only [List.set_cons_zero])
                refine wpAnyH_take (i := 11) (oi := { dst := some 101, op := Op.load 28 (Operand.tmp 11), type := 28, pos := "law.go:120", after := #[], guard := none }) (v := ?gv11) rfl (by kernel_rfl) (by kernel_rfl) (by kernel_rfl) (fun _ _ _ h => h) (Or.inl ⟨by rfl, ?gy11⟩) (by assumption) ?gr11
                case gy11 => (intro w hSw; (try dsimp only at hSw); go_simp; try with_reducible rfl)
                (try simp only [Act.put])
                (try simp only [List.setIfInBounds_toArray])
                (try simp only [List.set_cons_succ])
                (try simp only [List.set_cons_zero])
                refine wpAnyH_take (i := 12) (oi := { dst := some 102, op := Op.move (Operand.tmp 0), type := 22, pos := "law.go:120", after := #[], guard := none }) (v := ?gv12) rfl (by kernel_rfl) (by kernel_rfl) (by kernel_rfl) (fun _ _ _ h => h) (Or.inl ⟨by rfl, ?gy12⟩) (by assumption) ?gr12
                case gy12 => (intro w hSw; (try dsimp only at hSw); go_simp; try with_reducible rfl)
                (try simp only [Act.put])
                (try simp only [List.setIfInBounds_toArray])
                (try simp only [List.set_cons_succ])
                (try simp only [List.set_cons_zero])
                refine wpAnyH_take (i := 13) (oi := { dst := some 103, op := Op.indexAddr 22 (Operand.tmp 102) (Operand.const (Value.int IntKind.i64 0)), type := 0, pos := "law.go:120", after := #[{ on := 12, ground := Ground.data }], guard := none }) (v := ?gv13) rfl (by kernel_rfl) (by kernel_rfl) (by kernel_rfl) (fun _ _ _ h => h) (Or.inl ⟨by rfl, ?gy13⟩) (by assumption) ?gr13
                case gy13 => (intro w hSw; (try dsimp only at hSw); go_simp; try with_reducible rfl)
                (try simp only [Act.put])
                (try simp only [List.setIfInBounds_toArray])
                (try simp only [List.set_cons_succ])
                (try simp only [List.set_cons_zero])
                refine wpAnyH_take (i := 14) (oi := { dst := some 104, op := Op.fieldAddr 37 (Operand.tmp 103) 0, type := 0, pos := "law.go:120", after := #[{ on := 13, ground := Ground.data }], guard := none }) (v := ?gv14) rfl (by kernel_rfl) (by kernel_rfl) (by kernel_rfl) (fun _ _ _ h => h) (Or.inl ⟨by rfl, ?gy14⟩) (by assumption) ?gr14
                case gy14 => (intro w hSw; (try dsimp only at hSw); go_simp; try with_reducible rfl)
                (try simp only [Act.put])
                (try simp only [List.setIfInBounds_toArray])
                (try simp only [List.set_cons_succ])
                (try simp only [List.set_cons_zero])
                refine wpAnyH_take (i := 15) (oi := { dst := some 105, op := Op.load 23 (Operand.tmp 104), type := 23, pos := "law.go:120", after := #[{ on := 14, ground := Ground.data }], guard := none }) (v := ?gv15) rfl (by kernel_rfl) (by kernel_rfl) (by kernel_rfl) (fun _ _ _ h => h) (Or.inl ⟨by rfl, ?gy15⟩) (by assumption) ?gr15
                case gy15 => (intro w hSw; (try dsimp only at hSw); go_simp; try with_reducible rfl)
                (try simp only [Act.put])
                (try simp only [List.setIfInBounds_toArray])
                (try simp only [List.set_cons_succ])
                (try simp only [List.set_cons_zero])
                refine wpAnyH_ready (rs := [2]) (by kernel_rfl) (by simp) ?_
                refine AllReadyH.cons (o := { dst := some 92, op := Op.call { callee := Callee.value (Operand.func 22), args := #[Operand.tmp 90, Operand.tmp 91], argTypes := #[28, 28] }, type := 4, pos := "law.go:120", after := #[{ on := 0, ground := Ground.data }, { on := 1, ground := Ground.data }], guard := none }) rfl (fun K hK => ?_) AllReadyH.nil
                go_simp
                go_at_call 22
                refine (same_is (HS.out true rfl) A1.out.v A2.out.v).mono ?_
                rintro e wn ⟨rfl, hb⟩
                have A1' := Lib.hid (A1.out.below hb)
                have A2' := Lib.hid (A2.out.below hb)
                have C0' := Lib.hid (C0.out.below hb)
                have BB' := Lib.hid (BB.out.trans (hb.mono BB.out.size))
                clear A1
                have A1 := A1'
                clear A1'
                clear A2
                have A2 := A2'
                clear A2'
                clear C0
                have C0 := C0'
                clear C0'
                clear BB
                have BB := BB'
                clear BB'
                clear hb
                go_simp
                refine hK.out _ _ ?_ (fun hHeld => ?_)
                · exact ⟨A1.out.cell, A2.out.cell, C0.out.c1⟩
                clear hK K
                (try simp only [Act.put])
                (try simp only [List.setIfInBounds_toArray])
                (try simp only [List.set_cons_succ])
                (try simp only [List.set_cons_zero])
                refine wpAnyH_ready (rs := [5]) (by kernel_rfl) (by simp) ?_
                refine AllReadyH.cons (o := { dst := some 95, op := Op.call { callee := Callee.value (Operand.func 20), args := #[Operand.tmp 93, Operand.tmp 94], argTypes := #[28, 28] }, type := 28, pos := "law.go:120", after := #[{ on := 3, ground := Ground.data }, { on := 4, ground := Ground.data }, { on := 2, ground := Ground.chain }], guard := none }) rfl (fun K hK => ?_) AllReadyH.nil
                go_simp
                go_at_call 20
                refine (join_any _ _ _ _ _ A1.out.v A2.out.v).mono ?_
                rintro e wn ⟨q, hq, rfl, va, hb⟩
                have A1' := Lib.hid (A1.out.below hb)
                have A2' := Lib.hid (A2.out.below hb)
                have C0' := Lib.hid (C0.out.below hb)
                have BB' := Lib.hid (BB.out.trans (hb.mono BB.out.size))
                clear A1
                have A1 := A1'
                clear A1'
                clear A2
                have A2 := A2'
                clear A2'
                clear C0
                have C0 := C0'
                clear C0'
                clear BB
                have BB := BB'
                clear BB'
                clear hb
                clear hq
                have VJ := Lib.hid va
                clear va
                go_simp
                refine hK.out _ _ ?_ (fun hHeld => ?_)
                · exact ⟨A1.out.cell, A2.out.cell, C0.out.c1⟩
                clear hK K
                (try simp only [Act.put])
                (try simp only [List.setIfInBounds_toArray])
                (try simp only [List.set_cons_succ])
                (try simp only [List.set_cons_zero])
                refine wpAnyH_ready (rs := [10]) (by kernel_rfl) (by simp) ?_
                refine AllReadyH.cons (o := { dst := some 100, op := Op.call { callee := Callee.value (Operand.func 14), args := #[Operand.tmp 95, Operand.tmp 99], argTypes := #[28, 23] }, type := 3, pos := "law.go:120", after := #[{ on := 5, ground := Ground.data }, { on := 9, ground := Ground.data }, { on := 5, ground := Ground.chain }], guard := none }) rfl (fun K hK => ?_) AllReadyH.nil
                go_simp
                go_at_call 14
                refine (at_isB x0 x1 CU.out VJ.out).mono ?_
                rintro e wn ⟨rfl, hb⟩
                have A1' := Lib.hid (A1.out.below hb)
                have A2' := Lib.hid (A2.out.below hb)
                have C0' := Lib.hid (C0.out.below hb)
                have VJ' := Lib.hid (VJ.out.below hb)
                have BB' := Lib.hid (BB.out.trans (hb.mono BB.out.size))
                clear A1
                have A1 := A1'
                clear A1'
                clear A2
                have A2 := A2'
                clear A2'
                clear C0
                have C0 := C0'
                clear C0'
                clear VJ
                have VJ := VJ'
                clear VJ'
                clear BB
                have BB := BB'
                clear BB'
                clear hb
                go_simp
                refine hK.out _ _ ?_ (fun hHeld => ?_)
                · exact ⟨A1.out.cell, A2.out.cell, C0.out.c1⟩
                clear hK K
                (try simp only [Act.put])
                (try simp only [List.setIfInBounds_toArray])
                (try simp only [List.set_cons_succ])
                (try simp only [List.set_cons_zero])
                refine wpAnyH_ready (rs := [16]) (by kernel_rfl) (by simp) ?_
                refine AllReadyH.cons (o := { dst := some 106, op := Op.call { callee := Callee.value (Operand.func 14), args := #[Operand.tmp 101, Operand.tmp 105], argTypes := #[28, 23] }, type := 3, pos := "law.go:120", after := #[{ on := 11, ground := Ground.data }, { on := 15, ground := Ground.data }, { on := 10, ground := Ground.chain }], guard := none }) rfl (fun K hK => ?_) AllReadyH.nil
                go_simp
                go_at_call 14
                refine (at_isB x0 x1 CV.out A2.out.v).mono ?_
                rintro e wn ⟨rfl, hb⟩
                have A1' := Lib.hid (A1.out.below hb)
                have A2' := Lib.hid (A2.out.below hb)
                have C0' := Lib.hid (C0.out.below hb)
                have VJ' := Lib.hid (VJ.out.below hb)
                have BB' := Lib.hid (BB.out.trans (hb.mono BB.out.size))
                clear A1
                have A1 := A1'
                clear A1'
                clear A2
                have A2 := A2'
                clear A2'
                clear C0
                have C0 := C0'
                clear C0'
                clear VJ
                have VJ := VJ'
                clear VJ'
                clear BB
                have BB := BB'
                clear BB'
                clear hb
                go_simp
                refine hK.out _ _ ?_ (fun hHeld => ?_)
                · exact ⟨A1.out.cell, A2.out.cell, C0.out.c1⟩
                clear hK K
                (try simp only [Act.put])
                (try simp only [List.setIfInBounds_toArray])
                (try simp only [List.set_cons_succ])
                (try simp only [List.set_cons_zero])
                refine wpAnyH_take (i := 17) (oi := { dst := some 107, op := Op.binOp BinOp.eql 3 (Operand.tmp 100) (Operand.tmp 106) 3, type := 4, pos := "law.go:120", after := #[{ on := 10, ground := Ground.data }, { on := 16, ground := Ground.data }], guard := none }) (v := ?gv17) rfl (by kernel_rfl) (by kernel_rfl) (by kernel_rfl) (fun _ _ _ h => h) (Or.inl ⟨by rfl, ?gy17⟩) (by assumption) ?gr17
                case gy17 => (intro w hSw; (try dsimp only at hSw); go_simp; try with_reducible rfl)
                (try simp only [Act.put])
                (try simp only [List.setIfInBounds_toArray])
                (try simp only [List.set_cons_succ])
                (try simp only [List.set_cons_zero])
                refine wpAnyH_take (i := 18) (oi := { dst := some 108, op := Op.move (Operand.tmp 107), type := 4, pos := "law.go:120", after := #[{ on := 17, ground := Ground.data }, { on := 16, ground := Ground.chain }], guard := none }) (v := ?gv18) rfl (by kernel_rfl) (by kernel_rfl) (by kernel_rfl) (fun _ _ _ h => h) (Or.inl ⟨by rfl, ?gy18⟩) (by assumption) ?gr18
                case gy18 => (intro w hSw; (try dsimp only at hSw); go_simp; try with_reducible rfl)
                (try simp only [Act.put])
                (try simp only [List.setIfInBounds_toArray])
                (try simp only [List.set_cons_succ])
                (try simp only [List.set_cons_zero])
                refine wpAnyH_take (i := 19) (oi := { dst := some 109, op := Op.load 28 (Operand.tmp 9), type := 28, pos := "law.go:120", after := #[{ on := 18, ground := Ground.guard }], guard := some (18, true) }) (v := ?gv19) rfl (by kernel_rfl) (by kernel_rfl) (by kernel_rfl) (fun _ _ _ h => h) (Or.inl ⟨by rfl, ?gy19⟩) (by assumption) ?gr19
                case gy19 => (intro w hSw; (try dsimp only at hSw); go_simp; try with_reducible rfl)
                (try simp only [Act.put])
                (try simp only [List.setIfInBounds_toArray])
                (try simp only [List.set_cons_succ])
                (try simp only [List.set_cons_zero])
                refine wpAnyH_take (i := 20) (oi := { dst := some 110, op := Op.load 28 (Operand.tmp 11), type := 28, pos := "law.go:120", after := #[{ on := 18, ground := Ground.guard }], guard := some (18, true) }) (v := ?gv20) rfl (by kernel_rfl) (by kernel_rfl) (by kernel_rfl) (fun _ _ _ h => h) (Or.inl ⟨by rfl, ?gy20⟩) (by assumption) ?gr20
                case gy20 => (intro w hSw; (try dsimp only at hSw); go_simp; try with_reducible rfl)
                (try simp only [Act.put])
                (try simp only [List.setIfInBounds_toArray])
                (try simp only [List.set_cons_succ])
                (try simp only [List.set_cons_zero])
                refine wpAnyH_ready (rs := [21]) (by kernel_rfl) (by simp) ?_
                refine AllReadyH.cons (o := { dst := some 111, op := Op.call { callee := Callee.value (Operand.func 18), args := #[Operand.tmp 109, Operand.tmp 110], argTypes := #[28, 28] }, type := 4, pos := "law.go:120", after := #[{ on := 19, ground := Ground.data }, { on := 20, ground := Ground.data }, { on := 18, ground := Ground.chain }, { on := 18, ground := Ground.guard }], guard := some (18, true) }) rfl (fun K hK => ?_) AllReadyH.nil
                go_simp
                go_at_call 18
                refine (below_is C1.out A1.out.v A2.out.v).mono ?_
                rintro e wn ⟨rfl, hb⟩
                have A1' := Lib.hid (A1.out.below hb)
                have A2' := Lib.hid (A2.out.below hb)
                have C0' := Lib.hid (C0.out.below hb)
                have VJ' := Lib.hid (VJ.out.below hb)
                have BB' := Lib.hid (BB.out.trans (hb.mono BB.out.size))
                clear A1
                have A1 := A1'
                clear A1'
                clear A2
                have A2 := A2'
                clear A2'
                clear C0
                have C0 := C0'
                clear C0'
                clear VJ
                have VJ := VJ'
                clear VJ'
                clear BB
                have BB := BB'
                clear BB'
                clear hb
                go_simp
                refine hK.out _ _ ?_ (fun hHeld => ?_)
                · exact ⟨A1.out.cell, A2.out.cell, C0.out.c1⟩
                clear hK K
                (try simp only [Act.put])
                (try simp only [List.setIfInBounds_toArray])
                (try simp only [List.set_cons_succ])
                (try simp only [List.set_cons_zero])
                refine wpAnyH_take (i := 22) (oi := { dst := some 112, op := Op.pick (Operand.tmp 108) (Operand.tmp 111) (Operand.const (Value.bool false)), type := 4, pos := "law.go:120", after := #[{ on := 18, ground := Ground.data }, { on := 21, ground := Ground.data }], guard := none }) (v := ?gv22) rfl (by kernel_rfl) (by kernel_rfl) (by kernel_rfl) (fun _ _ _ h => h) (Or.inl ⟨by rfl, ?gy22⟩) (by assumption) ?gr22
                case gy22 => (intro w hSw; (try dsimp only at hSw); go_simp; try with_reducible rfl)
                (try simp only [Act.put])
                (try simp only [List.setIfInBounds_toArray])
                (try simp only [List.set_cons_succ])
                (try simp only [List.set_cons_zero])
                refine wpAnyH_take (i := 23) (oi := { dst := some 113, op := Op.move (Operand.tmp 112), type := 4, pos := "law.go:120", after := #[{ on := 22, ground := Ground.data }, { on := 21, ground := Ground.chain }], guard := none }) (v := ?gv23) rfl (by kernel_rfl) (by kernel_rfl) (by kernel_rfl) (fun _ _ _ h => h) (Or.inl ⟨by rfl, ?gy23⟩) (by assumption) ?gr23
                case gy23 => (intro w hSw; (try dsimp only at hSw); go_simp; try with_reducible rfl)
                (try simp only [Act.put])
                (try simp only [List.setIfInBounds_toArray])
                (try simp only [List.set_cons_succ])
                (try simp only [List.set_cons_zero])
                refine wpAnyH_take (i := 24) (oi := { dst := some 114, op := Op.load 28 (Operand.tmp 11), type := 28, pos := "law.go:120", after := #[{ on := 23, ground := Ground.guard }], guard := some (23, true) }) (v := ?gv24) rfl (by kernel_rfl) (by kernel_rfl) (by kernel_rfl) (fun _ _ _ h => h) (Or.inl ⟨by rfl, ?gy24⟩) (by assumption) ?gr24
                case gy24 => (intro w hSw; (try dsimp only at hSw); go_simp; try with_reducible rfl)
                (try simp only [Act.put])
                (try simp only [List.setIfInBounds_toArray])
                (try simp only [List.set_cons_succ])
                (try simp only [List.set_cons_zero])
                refine wpAnyH_take (i := 25) (oi := { dst := some 115, op := Op.load 28 (Operand.tmp 9), type := 28, pos := "law.go:120", after := #[{ on := 23, ground := Ground.guard }], guard := some (23, true) }) (v := ?gv25) rfl (by kernel_rfl) (by kernel_rfl) (by kernel_rfl) (fun _ _ _ h => h) (Or.inl ⟨by rfl, ?gy25⟩) (by assumption) ?gr25
                case gy25 => (intro w hSw; (try dsimp only at hSw); go_simp; try with_reducible rfl)
                (try simp only [Act.put])
                (try simp only [List.setIfInBounds_toArray])
                (try simp only [List.set_cons_succ])
                (try simp only [List.set_cons_zero])
                refine wpAnyH_ready (rs := [26]) (by kernel_rfl) (by simp) ?_
                refine AllReadyH.cons (o := { dst := some 116, op := Op.call { callee := Callee.value (Operand.func 18), args := #[Operand.tmp 114, Operand.tmp 115], argTypes := #[28, 28] }, type := 4, pos := "law.go:120", after := #[{ on := 24, ground := Ground.data }, { on := 25, ground := Ground.data }, { on := 23, ground := Ground.chain }, { on := 23, ground := Ground.guard }], guard := some (23, true) }) rfl (fun K hK => ?_) AllReadyH.nil
                go_simp
                go_at_call 18
                refine (below_is C2.out A2.out.v A1.out.v).mono ?_
                rintro e wn ⟨rfl, hb⟩
                have A1' := Lib.hid (A1.out.below hb)
                have A2' := Lib.hid (A2.out.below hb)
                have C0' := Lib.hid (C0.out.below hb)
                have VJ' := Lib.hid (VJ.out.below hb)
                have BB' := Lib.hid (BB.out.trans (hb.mono BB.out.size))
                clear A1
                have A1 := A1'
                clear A1'
                clear A2
                have A2 := A2'
                clear A2'
                clear C0
                have C0 := C0'
                clear C0'
                clear VJ
                have VJ := VJ'
                clear VJ'
                clear BB
                have BB := BB'
                clear BB'
                clear hb
                go_simp
                refine hK.out _ _ ?_ (fun hHeld => ?_)
                · exact ⟨A1.out.cell, A2.out.cell, C0.out.c1⟩
                clear hK K
                (try simp only [Act.put])
                (try simp only [List.setIfInBounds_toArray])
                (try simp only [List.set_cons_succ])
                (try simp only [List.set_cons_zero])
                refine wpAnyH_take (i := 27) (oi := { dst := some 117, op := Op.pick (Operand.tmp 113) (Operand.tmp 116) (Operand.const (Value.bool false)), type := 4, pos := "law.go:120", after := #[{ on := 23, ground := Ground.data }, { on := 26, ground := Ground.data }], guard := none }) (v := ?gv27) rfl (by kernel_rfl) (by kernel_rfl) (by kernel_rfl) (fun _ _ _ h => h) (Or.inl ⟨by rfl, ?gy27⟩) (by assumption) ?gr27
                case gy27 => (intro w hSw; (try dsimp only at hSw); go_simp; try with_reducible rfl)
                (try simp only [Act.put])
                (try simp only [List.setIfInBounds_toArray])
                (try simp only [List.set_cons_succ])
                (try simp only [List.set_cons_zero])
                refine wpAnyH_take (i := 28) (oi := { dst := some 118, op := Op.binOp BinOp.eql 4 (Operand.tmp 92) (Operand.tmp 117) 4, type := 4, pos := "law.go:120", after := #[{ on := 2, ground := Ground.data }, { on := 27, ground := Ground.data }], guard := none }) (v := ?gv28) rfl (by kernel_rfl) (by kernel_rfl) (by kernel_rfl) (fun _ _ _ h => h) (Or.inl ⟨by rfl, ?gy28⟩) (by assumption) ?gr28
                case gy28 => (intro w hSw; (try dsimp only at hSw); go_simp; try with_reducible rfl)
                (try simp only [Act.put])
                (try simp only [List.setIfInBounds_toArray])
                (try simp only [List.set_cons_succ])
                (try simp only [List.set_cons_zero])
                refine wpAnyH_take (i := 29) (oi := { dst := some 119, op := Op.move (Operand.tmp 118), type := 4, pos := "law.go:120", after := #[{ on := 28, ground := Ground.data }, { on := 26, ground := Ground.chain }], guard := none }) (v := ?gv29) rfl (by kernel_rfl) (by kernel_rfl) (by kernel_rfl) (fun _ _ _ h => h) (Or.inl ⟨by rfl, ?gy29⟩) (by assumption) ?gr29
                case gy29 => (intro w hSw; (try dsimp only at hSw); go_simp; try with_reducible rfl)
                (try simp only [Act.put])
                (try simp only [List.setIfInBounds_toArray])
                (try simp only [List.set_cons_succ])
                (try simp only [List.set_cons_zero])
                refine wpAnyH_ready (rs := [30]) (by kernel_rfl) (by simp) ?_
                refine AllReadyH.cons (o := { dst := some 120, op := Op.call { callee := Callee.value (Operand.func 11), args := #[], argTypes := #[] }, type := 4, pos := "law.go:120", after := #[{ on := 29, ground := Ground.chain }, { on := 29, ground := Ground.guard }], guard := some (29, true) }) rfl (fun K hK => ?_) AllReadyH.nil
                go_simp
                go_at_call 11
                refine (awake_any _).mono ?_
                rintro e wn ⟨rfl, hb⟩
                have A1' := Lib.hid (A1.out.below hb)
                have A2' := Lib.hid (A2.out.below hb)
                have C0' := Lib.hid (C0.out.below hb)
                have VJ' := Lib.hid (VJ.out.below hb)
                have BB' := Lib.hid (BB.out.trans (hb.mono BB.out.size))
                clear A1
                have A1 := A1'
                clear A1'
                clear A2
                have A2 := A2'
                clear A2'
                clear C0
                have C0 := C0'
                clear C0'
                clear VJ
                have VJ := VJ'
                clear VJ'
                clear BB
                have BB := BB'
                clear BB'
                clear hb
                go_simp
                refine hK.out _ _ ?_ (fun hHeld => ?_)
                · exact ⟨A1.out.cell, A2.out.cell, C0.out.c1⟩
                clear hK K
                (try simp only [Act.put])
                (try simp only [List.setIfInBounds_toArray])
                (try simp only [List.set_cons_succ])
                (try simp only [List.set_cons_zero])
                refine wpAnyH_take (i := 31) (oi := { dst := some 121, op := Op.pick (Operand.tmp 119) (Operand.tmp 120) (Operand.const (Value.bool false)), type := 4, pos := "law.go:120", after := #[{ on := 29, ground := Ground.data }, { on := 30, ground := Ground.data }], guard := none }) (v := ?gv31) rfl (by kernel_rfl) (by kernel_rfl) (by kernel_rfl) (fun _ _ _ h => h) (Or.inl ⟨by rfl, ?gy31⟩) (by assumption) ?gr31
                case gy31 => (intro w hSw; (try dsimp only at hSw); go_simp; try with_reducible rfl)
                (try simp only [Act.put])
                (try simp only [List.setIfInBounds_toArray])
                (try simp only [List.set_cons_succ])
                (try simp only [List.set_cons_zero])
                refine wpAnyH_ready (rs := [32]) (by kernel_rfl) (by simp) ?_
                refine AllReadyH.cons (o := _) rfl (fun K hK => ?_) AllReadyH.nil
                go_simp
                refine hK.out _ _ ?_ (fun hHeld => ?_)
                · exact ⟨A1.out.cell, A2.out.cell, C0.out.c1⟩
                clear hK K
                (try simp only [Act.put])
                (try simp only [List.setIfInBounds_toArray])
                (try simp only [List.set_cons_succ])
                (try simp only [List.set_cons_zero])
                refine wpAnyH_done (by kernel_rfl) ?_ _
                go_wp2
                go_ret
                exact ⟨rfl, BB.out⟩
end Go.Proofs.Ytapaimoahiplcaa
