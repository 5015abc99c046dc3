/- ViewRebuild: the walk. -/
import Derived.Test.YtapaimoahiplcaaMore
namespace Go.Proofs.Ytapaimoahiplcaa
open Go.RowKit Go.Shelf Go.Maps

/-- The slice at a holds the locations of m. -/
def Locs (W : World) (B : Nat) (a : Option Addr) (m : List (Int × Int)) : Prop :=
  B ≤ W.heap.size ∧ ∀ i, i < m.length → ∃ g, a = some ⟨g, 0, none⟩ ∧ g < B ∧ W.cell? ⟨g, i, none⟩ = some (.int .i64 (m.getD i (0, 0)).1)
theorem Locs.below {W W' : World} {B : Nat} {a : Option Addr} {m : List (Int × Int)} (h : Locs W B a m) (hb : Below W.heap.size W W') : Locs W' B a m :=
  ⟨Nat.le_trans h.1 hb.size, fun i hi => by
    obtain ⟨g, e, hg, hc⟩ := h.2 i hi
    exact ⟨g, e, hg, (hb.cell (p := ⟨g, i, none⟩) (Nat.lt_of_lt_of_le hg h.1)).trans hc⟩⟩
theorem Locs.set {W : World} {B : Nat} {a : Option Addr} {m : List (Int × Int)} (h : Locs W B a m) {b : Nat} (hb : B ≤ b) (u : Value) : Locs (W.setCell ⟨b, 0, none⟩ u) B a m :=
  ⟨by simpa [World.setCell] using h.1, fun i hi => by
    obtain ⟨g, e, hg, hc⟩ := h.2 i hi
    exact ⟨g, e, hg, (World.cell?_of_block (Below.heap_setCell _ _ _ _ (by simp; omega))).trans hc⟩⟩

/-- acc is below m, and knows all that the rounds down to i have added. -/
def Cov (m acc : List (Int × Int)) (i : Int) : Prop :=
  (∀ k, atL acc k ≤ atL m k) ∧ ∀ t : Nat, i < t → t < 2 * m.length → atL acc (m.getD (t % m.length) (0, 0)).1 = atL m (m.getD (t % m.length) (0, 0)).1
theorem cov_start (m : List (Int × Int)) (h : Ok m) : Cov m [] (2 * m.length - 1) :=
  ⟨fun k => (atL_bd h k).1, fun t h1 h2 => by omega⟩
theorem cov_step {m acc : List (Int × Int)} {j : Nat} (hm : Ok m) (ha : Ok acc) (h : Cov m acc j) :
    Cov m (withL acc (m.getD (j % m.length) (0, 0)).1 (atL m (m.getD (j % m.length) (0, 0)).1)) ((j : Int) - 1) := by
  obtain ⟨h1, h2⟩ := h
  generalize hx : (m.getD (j % m.length) (0, 0)).1 = x at *
  refine ⟨fun k => ?_, fun t ht1 ht2 => ?_⟩
  · rw [atL_withL ha]
    split
    · rename_i hk
      have := h1 k
      rw [hk.1] at this ⊢
      omega
    · exact h1 k
  · by_cases e : t = j
    · subst e
      rw [hx, atL_withL ha]
      have := h1 x
      split
      · omega
      · rename_i hk
        have hout : x < 0 ∨ 4096 ≤ x := by
          rcases Int.lt_or_le x 0 with g | g
          · exact .inl g
          · right
            by_cases g' : x < 4096
            · exact absurd ⟨rfl, g, g'⟩ hk
            · omega
        rw [atL_out ha x hout, atL_out hm x hout]
    · have h3 := h2 t (by omega) ht2
      rw [atL_withL ha]
      split
      · rename_i hk
        rw [hk.1] at h3 ⊢
        omega
      · exact h3
theorem cov_end {m acc : List (Int × Int)} (hm : Ok m) (ha : Ok acc) (h : Cov m acc (-1)) : acc = m := by
  refine ext_atL ha hm fun k => ?_
  rcases atL_pos hm k with ⟨h0, hno⟩ | ⟨p, hp, e, hv⟩
  · have := h.1 k
    have := (atL_bd ha k).1
    omega
  · obtain ⟨t, ht, rfl⟩ := List.getElem_of_mem hp
    have h3 := h.2 t (by omega) (by omega)
    rw [Nat.mod_eq_of_lt ht, List.getD, List.getElem?_eq_getElem ht] at h3
    simp only [Option.getD_some] at h3
    rw [← e]
    exact h3

def HeadB (w : World) (b1 b6 : Nat) (p1 : Option Nat) (a : Option Addr) (m : List (Int × Int)) (iv : Value) (wr : World) : Prop :=
  ∃ (i : Int) (acc : List (Int × Int)) (pw : Option Nat), iv = .int .i64 i ∧ -1 ≤ i ∧ i < 2 * m.length ∧ Bx wr b1 p1 m ∧ Locs wr b6 a m ∧ Bx wr b6 pw acc ∧ Below w.heap.size w wr ∧ Cov m acc i

def HeadC (w : World) (b1 b6 : Nat) (p1 pw : Option Nat) (a : Option Addr) (m : List (Int × Int)) (iv : Value) (wr : World) : Prop :=
  ∃ k : Nat, (k + 1 ≤ m.length ∨ k = 0) ∧ iv = .int .i64 (k + 1) ∧ Bx wr b1 p1 m ∧ Locs wr b6 a m ∧ Bx wr b6 pw m ∧ Below w.heap.size w wr
theorem rising_at {m : List (Int × Int)} (h : Ok m) {k : Nat} (hk : k + 1 < m.length) : (m.getD k (0, 0)).1 < (m.getD (k + 1) (0, 0)).1 := by
  rw [List.getD, List.getElem?_eq_getElem (by omega), List.getD, List.getElem?_eq_getElem hk]
  exact List.pairwise_iff_getElem.1 h.1 k (k + 1) (by omega) hk (by omega)

set_option maxRecDepth 100000 in
set_option maxHeartbeats 1600000 in
theorem rebuild (v : Value) (ops : List (Int × Int)) (w : World) (h : IsOps w v ops) (ho : OpsOk ops) :
    Calls Try.prog 9 #[v] w fun e w' => e = .returned (.bool true) ∧ Below w.heap.size w w' := by
  have H0 := Lib.hid h
  have OO := Lib.hid ho
  have BB := Lib.hid (Below.refl w.heap.size w)
  clear h ho
  go_enter Try.func9, Try.ntmps9
  go_wp2_with fail
  by_cases hg : 100 < ops.length
  · skip
    refine (great_is (r := true) (by simp; omega) H0.out).mono ?_
    rintro e wn ⟨rfl, rfl⟩
    go_wp2_with fail
    refine (awake_any _).mono ?_
    rintro e wn ⟨rfl, hb⟩
    have H0' := Lib.hid (H0.out.below (hb))
    have BB' := Lib.hid (BB.out.trans ((hb).mono BB.out.size))
    clear H0
    have H0 := H0'
    clear H0'
    clear BB
    have BB := BB'
    clear BB'
    clear hb
    go_wp2
    go_ret
    exact ⟨rfl, BB.out⟩
  · skip
    refine (great_is (r := false) (by simp; omega) H0.out).mono ?_
    rintro e wn ⟨rfl, rfl⟩
    go_wp2_with fail
    have OM := Lib.hid (ok_made OO.out)
    have hlm := ok_length OM.out
    refine (made_any _ _ _ H0.out (by omega) OO.out).mono ?_
    rintro e w1 ⟨p1, m1, rfl, va, qa, hb⟩
    have H0' := Lib.hid (H0.out.below (hb))
    have BB' := Lib.hid (BB.out.trans ((hb).mono BB.out.size))
    clear H0
    have H0 := H0'
    clear H0'
    clear BB
    have BB := BB'
    clear BB'
    clear hb
    have H0' := Lib.hid (H0.out.below (below_new w1 (.cells #[.map p1] 28)))
    have BB' := Lib.hid (BB.out.trans ((below_new w1 (.cells #[.map p1] 28)).mono BB.out.size))
    clear H0
    have H0 := H0'
    clear H0'
    clear BB
    have BB := BB'
    clear BB'
    have A1 := Lib.hid (Bx.new va)
    have P1 := Lib.hid (IsP.below qa (below_new w1 (.cells #[.map p1] 28)))
    clear va qa
    have kc0 := A1.out.cell
    go_wp2_with fail
    clear kc0
    generalize w1.alloc (.cells #[.map p1] 28) = w1' at *
    generalize w1.heap.size = b1 at *
    clear P1 H0
    generalize madeL ops = m at *
    clear OO hg
    refine (locs_any _ _ _ A1.out.v).mono ?_
    rintro e w2 ⟨v2, rfl, hown, -, hb⟩
    have A1' := Lib.hid (A1.out.below (hb))
    have BB' := Lib.hid (BB.out.trans ((hb).mono BB.out.size))
    clear A1
    have A1 := A1'
    clear A1'
    clear BB
    have BB := BB'
    clear BB'
    clear hb
    obtain ⟨a, cap, rfl, hla⟩ := locs_at hown
    have LR := Lib.hid (show Locs w2 w2.heap.size a m from ⟨Nat.le_refl _, hla⟩)
    have hne : b1 ≠ w2.heap.size := Nat.ne_of_lt A1.out.l
    have hwb : w.heap.size ≤ w2.heap.size := BB.out.size
    clear hown hla
    have A1' := Lib.hid (A1.out.below (below_new w2 (.cells #[.map none] 28)))
    have LR' := Lib.hid (LR.out.below (below_new w2 (.cells #[.map none] 28)))
    have BB' := Lib.hid (BB.out.trans ((below_new w2 (.cells #[.map none] 28)).mono BB.out.size))
    clear A1
    have A1 := A1'
    clear A1'
    clear LR
    have LR := LR'
    clear LR'
    clear BB
    have BB := BB'
    clear BB'
    have A6 := Lib.hid (Bx.new (VW.nil w2))
    have hn0 : (0 : Int) ≤ (m.length : Int) := by omega
    have hn1 : (m.length : Int) ≤ 4096 := by omega
    go_wp2_with fail
    generalize w2.alloc (.cells #[.map none] 28) = w3 at *
    generalize w2.heap.size = b6 at *
    go_loopw [7] (fun iv wr => HeadB w b1 b6 p1 a m iv wr) (fun iv _ => (intOf iv + 1).toNat)
    case atStart => exact ⟨2 * m.length - 1, [], none, rfl, by omega, by omega, A1.out, LR.out, A6.out, BB.out, cov_start m OM.out⟩
    case round =>
      obtain ⟨i, acc, pw, rfl, hi0, hi1, a1, l1, a6, bb, hcov⟩ := hrel
      clear A1 LR A6 BB
      have A1 := Lib.hid a1
      have LR := Lib.hid l1
      have A6 := Lib.hid a6
      have BB := Lib.hid bb
      have CV := Lib.hid hcov
      clear a1 l1 a6 bb hcov
      by_cases hlt : 0 ≤ i
      · skip
        obtain ⟨j, rfl⟩ : ∃ j : Nat, i = (j : Int) := ⟨i.toNat, by omega⟩
        have hn : 0 < m.length := by omega
        have hkl : j % m.length < m.length := Nat.mod_lt _ hn
        obtain ⟨g, rfl, hg, c0⟩ := LR.out.2 _ hkl
        obtain ⟨⟨x0, x1⟩, hat⟩ := pair_at OM.out hkl
        have hr : Int.tmod (j : Int) (m.length : Int) = ((j % m.length : Nat) : Int) := by rw [Int.tmod_eq_emod_of_nonneg (by omega)]; simp
        have hz : ((m.length : Int) == 0) = false := beq_eq_false_iff_ne.2 (by omega)
        have hk0 : (0 : Int) ≤ ((j % m.length : Nat) : Int) := by omega
        have hk1 : ((j % m.length : Nat) : Int) < (m.length : Int) := by omega
        have C1 := Lib.hid (cov_step OM.out A6.out.v.1 CV.out)
        clear hat CV
        generalize (m.getD (j % m.length) (0, 0)).1 = x at *
        go_wp2_with fail
        clear c0 hr hk0 hk1 hkl hz
        have hxb := atL_bd OM.out x
        obtain ⟨c, hc⟩ : ∃ c, atL m x = c := ⟨_, rfl⟩
        rw [hc] at hxb C1
        have CC := Lib.hid hc
        clear hc
        obtain ⟨hc0, hc1⟩ := hxb
        have A1' := Lib.hid (A1.out.below (Below.refl _ _).drew)
        have LR' := Lib.hid (LR.out.below (Below.refl _ _).drew)
        have A6' := Lib.hid (A6.out.below (Below.refl _ _).drew)
        have BB' := Lib.hid (BB.out.drew)
        clear A1
        have A1 := A1'
        clear A1'
        clear LR
        have LR := LR'
        clear LR'
        clear A6
        have A6 := A6'
        clear A6'
        clear BB
        have BB := BB'
        clear BB'
        refine wp_region_held_drew (S := fun w' => w'.cell? ⟨b1, 0, none⟩ = some (.map p1)) (by kernel_rfl) A1.out.cell (fun hHeld => ?_)
        refine wpAnyH_take (i := 1) (oi := { dst := some 36, op := Op.move (Operand.tmp 8), type := 23, pos := "law.go:151", after := #[], guard := none }) (v := ?d1xv1) rfl (by kernel_rfl) (by kernel_rfl) (by kernel_rfl) (fun _ _ _ h => h) (Or.inl ⟨by rfl, ?d1xy1⟩) (by assumption) ?d1xr1
        case d1xy1 => (intro w hSw; (try dsimp only at hSw); go_simp; try with_reducible rfl)
        (try simp only [Act.put])
        (try simp only [List.setIfInBounds_toArray])
        (try simp only [List.set_cons_succ])
        (try simp only [List.set_cons_zero])
        refine wpAnyH_take (i := 2) (oi := { dst := some 37, op := Op.load 28 (Operand.tmp 3), type := 28, pos := "law.go:151", after := #[], guard := none }) (v := ?d2xv2) rfl (by kernel_rfl) (by kernel_rfl) (by kernel_rfl) (fun _ _ _ h => h) (Or.inl ⟨by rfl, ?d2xy2⟩) (by assumption) ?d2xr2
        case d2xy2 => (intro w hSw; (try dsimp only at hSw); go_simp; try with_reducible rfl)
        (try simp only [Act.put])
        (try simp only [List.setIfInBounds_toArray])
        (try simp only [List.set_cons_succ])
        (try simp only [List.set_cons_zero])
        refine wpAnyH_take (i := 3) (oi := { dst := some 38, op := Op.move (Operand.tmp 8), type := 23, pos := "law.go:151", after := #[], guard := none }) (v := ?d3xv3) rfl (by kernel_rfl) (by kernel_rfl) (by kernel_rfl) (fun _ _ _ h => h) (Or.inl ⟨by rfl, ?d3xy3⟩) (by assumption) ?d3xr3
        case d3xy3 => (intro w hSw; (try dsimp only at hSw); go_simp; try with_reducible rfl)
        (try simp only [Act.put])
        (try simp only [List.setIfInBounds_toArray])
        (try simp only [List.set_cons_succ])
        (try simp only [List.set_cons_zero])
        refine wpAnyH_ready (rs := [0, 4]) (by kernel_rfl) (by simp) ?_
        refine AllReadyH.cons (o := { dst := some 35, op := Op.load 28 (Operand.tmp 6), type := 28, pos := "law.go:151", after := #[], guard := none }) rfl (fun K hK => ?_) ?_
        · skip
          have k6 := A6.out.cell
          go_simp
          clear k6
          refine hK.out _ _ ?_ (fun hHeld => ?_)
          · exact A1.out.cell
          clear hK K
          (try simp only [Act.put])
          (try simp only [List.setIfInBounds_toArray])
          (try simp only [List.set_cons_succ])
          (try simp only [List.set_cons_zero])
          refine wpAnyH_ready (rs := [4]) (by kernel_rfl) (by simp) ?_
          refine AllReadyH.cons (o := { dst := some 39, op := Op.call { callee := Callee.value (Operand.func 14), args := #[Operand.tmp 37, Operand.tmp 38], argTypes := #[28, 23] }, type := 3, pos := "law.go:151", after := #[{ on := 2, ground := Ground.data }, { on := 3, ground := Ground.data }], guard := none }) rfl (fun K hK => ?_) AllReadyH.nil
          go_simp
          go_at_call 14
          refine (at_isB (by omega) (by omega) CC.out A1.out.v).mono ?_
          rintro e wn ⟨rfl, hb⟩
          have A1' := Lib.hid (A1.out.below hb)
          have LR' := Lib.hid (LR.out.below hb)
          have A6' := Lib.hid (A6.out.below hb)
          have BB' := Lib.hid (BB.out.trans (hb.mono BB.out.size))
          clear A1
          have A1 := A1'
          clear A1'
          clear LR
          have LR := LR'
          clear LR'
          clear A6
          have A6 := A6'
          clear A6'
          clear BB
          have BB := BB'
          clear BB'
          clear hb
          go_simp
          refine hK.out _ _ ?_ (fun hHeld => ?_)
          · exact A1.out.cell
          clear hK K
          (try simp only [Act.put])
          (try simp only [List.setIfInBounds_toArray])
          (try simp only [List.set_cons_succ])
          (try simp only [List.set_cons_zero])
          refine wpAnyH_ready (rs := [5]) (by kernel_rfl) (by simp) ?_
          refine AllReadyH.cons (o := { dst := some 40, op := Op.call { callee := Callee.value (Operand.func 16), args := #[Operand.tmp 35, Operand.tmp 36, Operand.tmp 39], argTypes := #[28, 23, 3] }, type := 28, pos := "law.go:151", after := #[{ on := 0, ground := Ground.data }, { on := 1, ground := Ground.data }, { on := 4, ground := Ground.data }, { on := 4, ground := Ground.chain }], guard := none }) rfl (fun K hK => ?_) AllReadyH.nil
          go_simp
          go_at_call 16
          refine (with_any _ _ _ _ _ (by omega) (by omega) (by omega) (by omega) A6.out.v).mono ?_
          rintro e wm ⟨q, hq, rfl, va, hb⟩
          have A1' := Lib.hid (A1.out.below hb)
          have LR' := Lib.hid (LR.out.below hb)
          have A6' := Lib.hid (A6.out.below hb)
          have BB' := Lib.hid (BB.out.trans (hb.mono BB.out.size))
          clear A1
          have A1 := A1'
          clear A1'
          clear LR
          have LR := LR'
          clear LR'
          clear A6
          have A6 := A6'
          clear A6'
          clear BB
          have BB := BB'
          clear BB'
          clear hb
          clear hq
          go_simp
          refine hK.out _ _ ?_ (fun hHeld => ?_)
          · exact A1.out.cell
          clear hK K
          (try simp only [Act.put])
          (try simp only [List.setIfInBounds_toArray])
          (try simp only [List.set_cons_succ])
          (try simp only [List.set_cons_zero])
          refine wpAnyH_ready (rs := [6]) (by kernel_rfl) (by simp) ?_
          refine AllReadyH.cons (o := { dst := none, op := Op.store 28 (Operand.tmp 6) (Operand.tmp 40), type := 0, pos := "law.go:151", after := #[{ on := 5, ground := Ground.data }, { on := 5, ground := Ground.chain }, { on := 0, ground := Ground.phase }, { on := 1, ground := Ground.phase }, { on := 2, ground := Ground.phase }, { on := 3, ground := Ground.phase }, { on := 4, ground := Ground.phase }, { on := 5, ground := Ground.phase }], guard := none }) rfl (fun K hK => ?_) AllReadyH.nil
          have k6 := A6.out.cell
          have k7 := A6.out.free
          go_simp
          clear k6 k7
          have A1' := Lib.hid (A1.out.other A6.out.c hne (.map (some q)))
          have LR' := Lib.hid (LR.out.set (Nat.le_refl _) (.map (some q)))
          have BB' := Lib.hid (BB.out.setCell (p := ⟨b6, 0, none⟩) hwb (.map (some q)))
          have A6' := Lib.hid (A6.out.set va)
          clear A1 LR BB A6 va
          have A1 := A1'
          have LR := LR'
          have BB := BB'
          have A6 := A6'
          clear A1' LR' BB' A6'
          refine hK.out _ _ ?_ (fun hHeld => ?_)
          · exact A1.out.cell
          clear hK K
          (try simp only [Act.put])
          (try simp only [List.setIfInBounds_toArray])
          (try simp only [List.set_cons_succ])
          (try simp only [List.set_cons_zero])
          refine wpAnyH_done (by kernel_rfl) ?_ _
          go_wp2
          go_roundw
          case rel => exact ⟨(j : Int) - 1, _, _, by go_num, by omega, by omega, A1.out, LR.out, A6.out, BB.out, C1.out⟩
          case measure => simp [intOf]
        refine AllReadyH.cons (o := { dst := some 39, op := Op.call { callee := Callee.value (Operand.func 14), args := #[Operand.tmp 37, Operand.tmp 38], argTypes := #[28, 23] }, type := 3, pos := "law.go:151", after := #[{ on := 2, ground := Ground.data }, { on := 3, ground := Ground.data }], guard := none }) rfl (fun K hK => ?_) AllReadyH.nil
        go_simp
        go_at_call 14
        refine (at_isB (by omega) (by omega) CC.out A1.out.v).mono ?_
        rintro e wn ⟨rfl, hb⟩
        have A1' := Lib.hid (A1.out.below hb)
        have LR' := Lib.hid (LR.out.below hb)
        have A6' := Lib.hid (A6.out.below hb)
        have BB' := Lib.hid (BB.out.trans (hb.mono BB.out.size))
        clear A1
        have A1 := A1'
        clear A1'
        clear LR
        have LR := LR'
        clear LR'
        clear A6
        have A6 := A6'
        clear A6'
        clear BB
        have BB := BB'
        clear BB'
        clear hb
        go_simp
        refine hK.out _ _ ?_ (fun hHeld => ?_)
        · exact A1.out.cell
        clear hK K
        (try simp only [Act.put])
        (try simp only [List.setIfInBounds_toArray])
        (try simp only [List.set_cons_succ])
        (try simp only [List.set_cons_zero])
        refine wpAnyH_ready (rs := [0]) (by kernel_rfl) (by simp) ?_
        refine AllReadyH.cons (o := { dst := some 35, op := Op.load 28 (Operand.tmp 6), type := 28, pos := "law.go:151", after := #[], guard := none }) rfl (fun K hK => ?_) AllReadyH.nil
        have k6 := A6.out.cell
        go_simp
        clear k6
        refine hK.out _ _ ?_ (fun hHeld => ?_)
        · exact A1.out.cell
        clear hK K
        (try simp only [Act.put])
        (try simp only [List.setIfInBounds_toArray])
        (try simp only [List.set_cons_succ])
        (try simp only [List.set_cons_zero])
        refine wpAnyH_ready (rs := [5]) (by kernel_rfl) (by simp) ?_
        refine AllReadyH.cons (o := { dst := some 40, op := Op.call { callee := Callee.value (Operand.func 16), args := #[Operand.tmp 35, Operand.tmp 36, Operand.tmp 39], argTypes := #[28, 23, 3] }, type := 28, pos := "law.go:151", after := #[{ on := 0, ground := Ground.data }, { on := 1, ground := Ground.data }, { on := 4, ground := Ground.data }, { on := 4, ground := Ground.chain }], guard := none }) rfl (fun K hK => ?_) AllReadyH.nil
        go_simp
        go_at_call 16
        refine (with_any _ _ _ _ _ (by omega) (by omega) (by omega) (by omega) A6.out.v).mono ?_
        rintro e wm ⟨q, hq, rfl, va, hb⟩
        have A1' := Lib.hid (A1.out.below hb)
        have LR' := Lib.hid (LR.out.below hb)
        have A6' := Lib.hid (A6.out.below hb)
        have BB' := Lib.hid (BB.out.trans (hb.mono BB.out.size))
        clear A1
        have A1 := A1'
        clear A1'
        clear LR
        have LR := LR'
        clear LR'
        clear A6
        have A6 := A6'
        clear A6'
        clear BB
        have BB := BB'
        clear BB'
        clear hb
        clear hq
        go_simp
        refine hK.out _ _ ?_ (fun hHeld => ?_)
        · exact A1.out.cell
        clear hK K
        (try simp only [Act.put])
        (try simp only [List.setIfInBounds_toArray])
        (try simp only [List.set_cons_succ])
        (try simp only [List.set_cons_zero])
        refine wpAnyH_ready (rs := [6]) (by kernel_rfl) (by simp) ?_
        refine AllReadyH.cons (o := { dst := none, op := Op.store 28 (Operand.tmp 6) (Operand.tmp 40), type := 0, pos := "law.go:151", after := #[{ on := 5, ground := Ground.data }, { on := 5, ground := Ground.chain }, { on := 0, ground := Ground.phase }, { on := 1, ground := Ground.phase }, { on := 2, ground := Ground.phase }, { on := 3, ground := Ground.phase }, { on := 4, ground := Ground.phase }, { on := 5, ground := Ground.phase }], guard := none }) rfl (fun K hK => ?_) AllReadyH.nil
        have k6 := A6.out.cell
        have k7 := A6.out.free
        go_simp
        clear k6 k7
        have A1' := Lib.hid (A1.out.other A6.out.c hne (.map (some q)))
        have LR' := Lib.hid (LR.out.set (Nat.le_refl _) (.map (some q)))
        have BB' := Lib.hid (BB.out.setCell (p := ⟨b6, 0, none⟩) hwb (.map (some q)))
        have A6' := Lib.hid (A6.out.set va)
        clear A1 LR BB A6 va
        have A1 := A1'
        have LR := LR'
        have BB := BB'
        have A6 := A6'
        clear A1' LR' BB' A6'
        refine hK.out _ _ ?_ (fun hHeld => ?_)
        · exact A1.out.cell
        clear hK K
        (try simp only [Act.put])
        (try simp only [List.setIfInBounds_toArray])
        (try simp only [List.set_cons_succ])
        (try simp only [List.set_cons_zero])
        refine wpAnyH_done (by kernel_rfl) ?_ _
        go_wp2
        go_roundw
        case rel => exact ⟨(j : Int) - 1, _, _, by go_num, by omega, by omega, A1.out, LR.out, A6.out, BB.out, C1.out⟩
        case measure => simp [intOf]
      · skip
        have hi : i = -1 := by omega
        subst hi
        have he := cov_end OM.out A6.out.v.1 CV.out
        rw [he] at A6
        clear CV hi0 hi1 he acc
        go_wp2_with fail
        go_loopw [9] (fun iv wr => HeadC w b1 b6 p1 pw a m iv wr) (fun iv _ => m.length - (intOf iv).toNat)
        case atStart => exact ⟨0, by omega, rfl, A1.out, LR.out, A6.out, BB.out⟩
        case round =>
          obtain ⟨k, hk, rfl, a1, l1, a6, bb⟩ := hrel
          clear A1 LR A6 BB
          have A1 := Lib.hid a1
          have LR := Lib.hid l1
          have A6 := Lib.hid a6
          have BB := Lib.hid bb
          clear a1 l1 a6 bb
          by_cases hlt : k + 1 < m.length
          · skip
            obtain ⟨g, rfl, hg, c0⟩ := LR.out.2 k (by omega)
            obtain ⟨g', e, _, c1⟩ := LR.out.2 (k + 1) hlt
            cases e
            have hxy := rising_at OM.out hlt
            generalize (m.getD k (0, 0)).1 = x at *
            generalize (m.getD (k + 1) (0, 0)).1 = y at *
            have hk0 : (0 : Int) ≤ (k : Int) := by omega
            have hk1 : (k : Int) < (m.length : Int) := by omega
            have hk2 : (0 : Int) ≤ (k : Int) + 1 := by omega
            have hk3 : (k : Int) + 1 < (m.length : Int) := by omega
            have hsub : IntKind.i64.wrap (k : Int) = k := IntWalk.i64_in _ (by omega)
            go_wp2_with fail
            have c0 : wr.drew.cell? ⟨g, k, none⟩ = some (.int .i64 x) := c0
            have c1 : wr.drew.cell? ⟨g, k + 1, none⟩ = some (.int .i64 y) := c1
            have A1' := Lib.hid (A1.out.below (Below.refl _ _).drew)
            have LR' := Lib.hid (LR.out.below (Below.refl _ _).drew)
            have A6' := Lib.hid (A6.out.below (Below.refl _ _).drew)
            have BB' := Lib.hid (BB.out.drew)
            clear A1
            have A1 := A1'
            clear A1'
            clear LR
            have LR := LR'
            clear LR'
            clear A6
            have A6 := A6'
            clear A6'
            clear BB
            have BB := BB'
            clear BB'
            go_region_held3 (fun w' => w'.cell? ⟨g, k, none⟩ = some (.int .i64 x) ∧ w'.cell? ⟨g, k + 1, none⟩ = some (.int .i64 y))
              (exact ⟨c0, c1⟩)
              (fail)
            have hge : ¬ y ≤ x := by omega
            go_wp2
            go_roundw
            case rel => exact ⟨k + 1, by omega, by go_num, A1.out, LR.out, A6.out, BB.out⟩
            case measure => simp [intOf]; omega
          · skip
            have hk3 : (m.length : Int) ≤ (k : Int) + 1 := by omega
            have kc0 := A1.out.cell
            have kc1 := A6.out.cell
            go_wp2_with fail
            clear kc0 kc1
            refine (same_is (r := true) (by simp) A1.out.v A6.out.v).mono ?_
            rintro e wn ⟨rfl, hb⟩
            have A1' := Lib.hid (A1.out.below (hb))
            have A6' := Lib.hid (A6.out.below (hb))
            have BB' := Lib.hid (BB.out.trans ((hb).mono BB.out.size))
            clear A1
            have A1 := A1'
            clear A1'
            clear A6
            have A6 := A6'
            clear A6'
            clear BB
            have BB := BB'
            clear BB'
            clear hb
            have kc0 := A1.out.cell
            have kc1 := A6.out.cell
            go_wp2_with fail
            clear kc0
            clear kc1
            refine (below_is (r := true) (below_refl OM.out) A1.out.v A6.out.v).mono ?_
            rintro e wn ⟨rfl, hb⟩
            have A1' := Lib.hid (A1.out.below (hb))
            have A6' := Lib.hid (A6.out.below (hb))
            have BB' := Lib.hid (BB.out.trans ((hb).mono BB.out.size))
            clear A1
            have A1 := A1'
            clear A1'
            clear A6
            have A6 := A6'
            clear A6'
            clear BB
            have BB := BB'
            clear BB'
            clear hb
            have kc0 := A1.out.cell
            have kc1 := A6.out.cell
            go_wp2_with fail
            clear kc0
            clear kc1
            refine (below_is (r := true) (below_refl OM.out) A6.out.v A1.out.v).mono ?_
            rintro e wn ⟨rfl, hb⟩
            have A1' := Lib.hid (A1.out.below (hb))
            have A6' := Lib.hid (A6.out.below (hb))
            have BB' := Lib.hid (BB.out.trans ((hb).mono BB.out.size))
            clear A1
            have A1 := A1'
            clear A1'
            clear A6
            have A6 := A6'
            clear A6'
            clear BB
            have BB := BB'
            clear BB'
            clear hb
            go_wp2_with fail
            refine (awake_any _).mono ?_
            rintro e wn ⟨rfl, hb⟩
            have A1' := Lib.hid (A1.out.below (hb))
            have A6' := Lib.hid (A6.out.below (hb))
            have BB' := Lib.hid (BB.out.trans ((hb).mono BB.out.size))
            clear A1
            have A1 := A1'
            clear A1'
            clear A6
            have A6 := A6'
            clear A6'
            clear BB
            have BB := BB'
            clear BB'
            clear hb
            go_wp2
            go_ret
            exact ⟨rfl, BB.out⟩
end Go.Proofs.Ytapaimoahiplcaa
