/- HistoryAdds: the walk. -/
import Derived.Test.YtfkfomefelekcaaIs
import Derived.Test.YtfkfomefelekcaaOutside
namespace Go.Proofs.Ytfkfomefelekcaa
open Go.RowKit Go.Shelf Go.Maps

def one9 : One := ⟨0, 0, 0, -9, 0, 0⟩
theorem one9_ok : one9.Ok := by simp [One.Ok, one9]
theorem IsOnes.take {w : World} {a : Option Addr} {n cap : Nat} {l : List One} (h : IsOnes w (.slice a n cap) l) (k : Nat) (hk : k ≤ n) (hn : l.length = n) : IsOnes w (.slice a k cap) (l.take k) := by
  rcases h with ⟨a', cap', e, rfl⟩ | ⟨b, off, cap', e, hb, hc⟩
  · cases e
    have : k = 0 := by omega
    subst this
    exact .inl ⟨_, _, rfl, rfl⟩
  · simp only [Value.slice.injEq] at e
    obtain ⟨rfl, _, rfl⟩ := e
    have hl : (l.take k).length = k := by rw [List.length_take]; omega
    refine .inr ⟨b, off, cap, by rw [hl], hb, fun i hi => ?_⟩
    rw [hl] at hi
    have e : (l.take k).getD i zeroOne = l.getD i zeroOne := by simp [List.getD, hi]
    rw [e]
    exact hc i (by omega)
theorem onesOk_take {l : List One} (h : OnesOk l) (k : Nat) : OnesOk (l.take k) := fun o ho => h o (List.mem_of_mem_take ho)

theorem HW.blt {w : World} {b n c : Nat} {q : List MP} (h : HW w (.slice (some ⟨b, 0, none⟩) n c) q) : b < w.heap.size := by
  obtain ⟨_, h | ⟨b', t, e, hk⟩⟩ := h
  · exact absurd h.1 (by simp)
  · simp only [Value.slice.injEq, Option.some.injEq, Addr.mk.injEq] at e
    obtain rfl := e.1.1
    exact lt_block hk
theorem IsOnes.only {w w' : World} {b n cap b' off : Nat} {l : List One} (h : IsOnes w (.slice (some ⟨b, off, none⟩) n cap) l) (hne : b ≠ b') (ho : Only b' w w') : IsOnes w' (.slice (some ⟨b, off, none⟩) n cap) l := by
  rcases h with h | ⟨b1, off1, cap1, e, hb, hc⟩
  · exact .inl h
  · simp only [Value.slice.injEq, Option.some.injEq, Addr.mk.injEq, and_true] at e
    obtain ⟨⟨rfl, rfl⟩, rfl, rfl⟩ := e
    refine .inr ⟨b, off, cap, rfl, by rw [ho.size]; exact hb, fun i hi => ?_⟩
    have e : ∀ j, w'.cell? ⟨b, j, none⟩ = w.cell? ⟨b, j, none⟩ := fun j => World.cell?_of_block (ho.block b hne)
    simp only [e]
    exact hc i hi
theorem IsOnes.onlyA {w w' : World} {a : Option Addr} {n cap b' : Nat} {l : List One} (h : IsOnes w (.slice a n cap) l) (hne : ∀ b off, a = some ⟨b, off, none⟩ → 0 < l.length → b ≠ b') (ho : Only b' w w') : IsOnes w' (.slice a n cap) l := by
  rcases h with h | ⟨b1, off1, cap1, e, hb, hc⟩
  · exact .inl h
  · simp only [Value.slice.injEq] at e
    obtain ⟨rfl, rfl, rfl⟩ := e
    by_cases hl : 0 < l.length
    · exact IsOnes.only (.inr ⟨b1, off1, cap, rfl, hb, hc⟩) (hne _ _ rfl hl) ho
    · have : l = [] := List.eq_nil_of_length_eq_zero (by omega)
      subst this
      exact .inl ⟨_, _, rfl, rfl⟩
theorem IsOnes.first {w : World} {b off n cap : Nat} {l : List One} (h : IsOnes w (.slice (some ⟨b, off, none⟩) n cap) l) (hl : 0 < l.length) : b < w.heap.size := by
  rcases h with ⟨_, _, _, rfl⟩ | ⟨b1, off1, cap1, e, hb, hc⟩
  · simp at hl
  · simp only [Value.slice.injEq, Option.some.injEq, Addr.mk.injEq, and_true] at e
    obtain ⟨⟨rfl, rfl⟩, _⟩ := e
    exact hb

structure AtA (w : World) (b2 b5 : Nat) (x y z : Int) (l : List One) (v : Value) (k : Nat) (W : World) : Prop where
  w2 : Box W b2 #[.int .i64 x, .int .u32 y, .int .u32 z] 24
  h : ∃ bq q, bq ≠ b5 ∧ q.map (·.1) = msgsOf x y z (l.take k) ∧ q.length = k + 1 ∧ Box W b5 #[.slice (some ⟨bq, 0, none⟩) (k + 1) (k + 1)] 29 ∧ HW W (.slice (some ⟨bq, 0, none⟩) (k + 1) (k + 1)) q
  hi : IsOnes W v l
  g : Below w.heap.size w W

set_option maxRecDepth 100000 in
set_option maxHeartbeats 6400000 in
theorem adds_small (x y z : Int) (v : Value) (l : List One) (w : World) (h : IsOnes w v l) (ho : OnesOk l) (hl : l.length ≤ 100) (hcap : ∀ a m c, v = .slice a m c → m ≤ c) :
    Calls Try.prog 3 #[.agg #[.int .i64 x, .int .u32 y, .int .u32 z], v] w fun e w' => e = .returned (.bool true) ∧ Below w.heap.size w w' := by
  obtain ⟨a, cap, rfl⟩ := h.slice
  have HI := Lib.hid h
  have HA := Lib.hid h
  have HAB : Hid (∀ b off, a = some ⟨b, off, none⟩ → 0 < l.length → b < w.heap.size) := Lib.hid (fun b off e hp => by subst e; exact h.first hp)
  have HO := Lib.hid ho
  clear h ho
  obtain ⟨n, hn⟩ : ∃ n, l.length = n := ⟨_, rfl⟩
  have HN := Lib.hid hn
  rw [hn] at HI HA hl hcap ⊢
  have hcap := hcap _ _ _ rfl
  clear hn
  have qE := eqlW
  have qF0 := field0V
  have qF1 := field1V
  have qF2 := fieldV
  go_enter Try.func3, Try.ntmps3
  go_wp2_with fail
  have HI' := Lib.hid (HI.out.below (below_new w (.cells #[.int .i64 x, .int .u32 y, .int .u32 z] 24)))
  clear HI
  have HI := HI'
  clear HI'
  have BB := Lib.hid (below_new w (.cells #[.int .i64 x, .int .u32 y, .int .u32 z] 24))
  have W2 := Lib.hid (Box.new w #[.int .i64 x, .int .u32 y, .int .u32 z] 24 rfl)
  generalize World.alloc w (.cells #[.int .i64 x, .int .u32 y, .int .u32 z] 24) = a0 at *
  obtain ⟨b2, hb2⟩ : ∃ b, w.heap.size = b := ⟨_, rfl⟩
  rw [hb2] at W2 ⊢
  refine (new_any x y z _).mono ?_
  rintro e z1 ⟨b1, hb1, rfl, hh, hb⟩
  have hlb1 : b1 < z1.heap.size := by obtain ⟨_, h | ⟨b', t, e, hk⟩⟩ := hh; exact absurd h.2 (by simp); cases e; exact lt_block hk
  have HI' := Lib.hid (HI.out.below (hb))
  have W2' := Lib.hid (W2.out.below (hb))
  have BB' := Lib.hid (BB.out.trans ((hb).mono BB.out.size))
  clear HI
  have HI := HI'
  clear HI'
  clear W2
  have W2 := W2'
  clear W2'
  clear BB
  have BB := BB'
  clear BB'
  have H := Lib.hid hh
  clear hb hh
  simp only [List.length_cons, List.length_nil, Nat.zero_add] at H
  go_wp2_with fail
  have hlt_b5 := BB.out.size
  have hlt_b5_W2 := W2.out.lt
  have HI' := Lib.hid (HI.out.below (below_new z1 (.cells #[.slice (some ⟨b1, 0, none⟩) 1 1] 29)))
  have W2' := Lib.hid (W2.out.below (below_new z1 (.cells #[.slice (some ⟨b1, 0, none⟩) 1 1] 29)))
  have H' := Lib.hid (H.out.below (below_new z1 (.cells #[.slice (some ⟨b1, 0, none⟩) 1 1] 29)))
  have BB' := Lib.hid (BB.out.trans ((below_new z1 (.cells #[.slice (some ⟨b1, 0, none⟩) 1 1] 29)).mono BB.out.size))
  clear HI
  have HI := HI'
  clear HI'
  clear W2
  have W2 := W2'
  clear W2'
  clear H
  have H := H'
  clear H'
  clear BB
  have BB := BB'
  clear BB'
  have B5 := Lib.hid (Box.new z1 #[.slice (some ⟨b1, 0, none⟩) 1 1] 29 rfl)
  have hsz_b5 : (World.alloc z1 (.cells #[.slice (some ⟨b1, 0, none⟩) 1 1] 29)).heap.size = (World.heap z1).size + 1 := by simp
  generalize World.alloc z1 (.cells #[.slice (some ⟨b1, 0, none⟩) 1 1] 29) = a2 at *
  generalize World.heap z1 = hp_b5 at *
  generalize hp_b5.size = b5 at *
  go_loopw [20] (fun iv wr => ∃ k : Nat, k ≤ n ∧ iv = .int .i64 k ∧ AtA w b2 b5 x y z l (.slice a n cap) k wr) (fun iv _ => n - (intOf iv).toNat)
  case atStart => exact ⟨0, by omega, by simp, W2.out, ⟨b1, _, by omega, by simp [msgsOf], rfl, B5.out, H.out⟩, HI.out, BB.out⟩
  case round =>
    obtain ⟨k, hk, rfl, W2', ⟨bq, q, hq5, hqm, hql, B5', H'⟩, HI', BB'⟩ := hrel
    clear W2 B5 H HI BB
    have W2 := Lib.hid W2'
    clear W2'
    have B5 := Lib.hid B5'
    clear B5'
    have H := Lib.hid H'
    clear H'
    have HI := Lib.hid HI'
    clear HI'
    have BB := Lib.hid BB'
    clear BB'
    have HQ := Lib.hid hqm
    clear hqm
    by_cases hlt : k < n
    · skip
      rcases HI.out with ⟨a', cap', he, hl0⟩ | ⟨bo, off, cap', he, hbo, hco⟩
      · exfalso; have hz := HN.out; rw [hl0] at hz; simp at hz; omega
      obtain ⟨c0, c1, c2, c3, c4, c5⟩ := hco k (by rw [HN.out]; exact hlt)
      have OO := Lib.hid (onesOk_at HO.out (i := k) (by rw [HN.out]; exact hlt))
      have HT := Lib.hid (msgsOf_take x y z l k (by rw [HN.out]; exact hlt))
      clear hco
      generalize l.getD k zeroOne = o at *
      rw [HN.out] at he
      simp only [Value.slice.injEq] at he
      obtain ⟨rfl, -, rfl⟩ := he
      have hbo0 : bo < w.heap.size := HA.out.first (by rw [HN.out]; omega)
      have hkc : k ≤ cap := by omega
      have hw2 : IntKind.i64.wrap ((k : Int) + 2) = (k : Int) + 2 := IntWalk.i64_in _ (by omega)
      go_upto_region 7 with fail
      clear c0 c1 c2 c3 c4 c5
      have hlt_b7 := BB.out.size
      have hlt_b7_W2 := W2.out.lt
      have hlt_b7_B5 := B5.out.lt
      have W2' := Lib.hid (W2.out.below (below_new wr (.cells #[.int .i64 o.val, .int .u32 o.ver, .int .u32 o.ref, .int .i64 o.thr, .int .u8 o.at_, .int .u8 o.known] 32)))
      have B5' := Lib.hid (B5.out.below (below_new wr (.cells #[.int .i64 o.val, .int .u32 o.ver, .int .u32 o.ref, .int .i64 o.thr, .int .u8 o.at_, .int .u8 o.known] 32)))
      have H' := Lib.hid (H.out.below (below_new wr (.cells #[.int .i64 o.val, .int .u32 o.ver, .int .u32 o.ref, .int .i64 o.thr, .int .u8 o.at_, .int .u8 o.known] 32)))
      have HI' := Lib.hid (HI.out.below (below_new wr (.cells #[.int .i64 o.val, .int .u32 o.ver, .int .u32 o.ref, .int .i64 o.thr, .int .u8 o.at_, .int .u8 o.known] 32)))
      have BB' := Lib.hid (BB.out.trans ((below_new wr (.cells #[.int .i64 o.val, .int .u32 o.ver, .int .u32 o.ref, .int .i64 o.thr, .int .u8 o.at_, .int .u8 o.known] 32)).mono BB.out.size))
      clear W2
      have W2 := W2'
      clear W2'
      clear B5
      have B5 := B5'
      clear B5'
      clear H
      have H := H'
      clear H'
      clear HI
      have HI := HI'
      clear HI'
      clear BB
      have BB := BB'
      clear BB'
      have B7 := Lib.hid (Box.new wr #[.int .i64 o.val, .int .u32 o.ver, .int .u32 o.ref, .int .i64 o.thr, .int .u8 o.at_, .int .u8 o.known] 32 rfl)
      have hsz_b7 : (World.alloc wr (.cells #[.int .i64 o.val, .int .u32 o.ver, .int .u32 o.ref, .int .i64 o.thr, .int .u8 o.at_, .int .u8 o.known] 32)).heap.size = (World.heap wr).size + 1 := by simp
      generalize World.alloc wr (.cells #[.int .i64 o.val, .int .u32 o.ver, .int .u32 o.ref, .int .i64 o.thr, .int .u8 o.at_, .int .u8 o.known] 32) = a50 at *
      generalize World.heap wr = hp_b7 at *
      generalize hp_b7.size = b7 at *
      go_cut [8] (fun s8 wx => ∃ b8 bz qz, s8 = .pointer (some ⟨b8, 0, none⟩) ∧ bz ≠ b5 ∧ b8 ≠ b5 ∧ qz.map (·.1) = msgsOf x y z (l.take (k + 1)) ∧ qz.length = k + 1 + 1 ∧ Box wx b8 #[.slice (some ⟨bz, 0, none⟩) (k + 1 + 1) (k + 1 + 1)] 29 ∧ HW wx (.slice (some ⟨bz, 0, none⟩) (k + 1 + 1) (k + 1 + 1)) qz ∧ Box wx b2 #[.int .i64 x, .int .u32 y, .int .u32 z] 24 ∧ Box wx b5 #[.slice (some ⟨bq, 0, none⟩) (k + 1) (k + 1)] 29 ∧ HW wx (.slice (some ⟨bq, 0, none⟩) (k + 1) (k + 1)) q ∧ IsOnes wx (.slice (some ⟨bo, off, none⟩) n cap) l ∧ Below w.heap.size w wx)
      case first =>
        have W2' := Lib.hid (W2.out.below ((Below.refl _ _).drew))
        have B5' := Lib.hid (B5.out.below ((Below.refl _ _).drew))
        have H' := Lib.hid (H.out.below ((Below.refl _ _).drew))
        have HI' := Lib.hid (HI.out.below ((Below.refl _ _).drew))
        have B7' := Lib.hid (B7.out.below ((Below.refl _ _).drew))
        have BB' := Lib.hid (BB.out.trans (((Below.refl _ _).drew).mono BB.out.size))
        clear W2
        have W2 := W2'
        clear W2'
        clear B5
        have B5 := B5'
        clear B5'
        clear H
        have H := H'
        clear H'
        clear HI
        have HI := HI'
        clear HI'
        clear B7
        have B7 := B7'
        clear B7'
        clear BB
        have BB := BB'
        clear BB'
        refine wp_region_held_drew (S := fun w' => w'.cell? ⟨b5, 0, none⟩ = some (.slice (some ⟨bq, 0, none⟩) (k + 1) (k + 1)) ∧ w'.cell? ⟨b7, 0, none⟩ = some (.int .i64 o.val) ∧ w'.cell? ⟨b7, 1, none⟩ = some (.int .u32 o.ver) ∧ w'.cell? ⟨b7, 2, none⟩ = some (.int .u32 o.ref) ∧ w'.cell? ⟨b7, 3, none⟩ = some (.int .i64 o.thr) ∧ w'.cell? ⟨b7, 4, none⟩ = some (.int .u8 o.at_) ∧ w'.cell? ⟨b7, 5, none⟩ = some (.int .u8 o.known)) (by kernel_rfl) ⟨B5.out.cells1.1, B7.out.cell 0, B7.out.cell 1, B7.out.cell 2, B7.out.cell 3, B7.out.cell 4, B7.out.cell 5⟩ (fun hHeld => ?_)
        generalize World.drew a50 = V0 at *
        refine wpAnyH_take (i := 0) (oi := { dst := some 25, op := Op.load 29 (Operand.tmp 5), type := 29, pos := "law.go:69", after := #[], guard := none }) (v := ?d1_1xv0) rfl (by kernel_rfl) (by kernel_rfl) (by kernel_rfl) (fun _ _ _ h => h) (Or.inl ⟨by rfl, ?d1_1xy0⟩) (by assumption) ?d1_1xr0
        case d1_1xy0 => (intro w hSw; (try dsimp only at hSw); go_simp; try with_reducible rfl)
        (try simp only [Act.put])
        (try simp only [List.setIfInBounds_toArray])
        (try simp only [List.set_cons_succ])
        (try simp only [List.set_cons_zero])
        refine wpAnyH_take (i := 1) (oi := { dst := some 26, op := Op.load 32 (Operand.tmp 7), type := 32, pos := "law.go:69", after := #[], guard := none }) (v := ?d1_2xv1) rfl (by kernel_rfl) (by kernel_rfl) (by kernel_rfl) (fun _ _ _ h => h) (Or.inl ⟨by rfl, ?d1_2xy1⟩) (by assumption) ?d1_2xr1
        case d1_2xy1 => (intro w hSw; (try dsimp only at hSw); go_simp; try with_reducible rfl)
        (try simp only [Act.put])
        (try simp only [List.setIfInBounds_toArray])
        (try simp only [List.set_cons_succ])
        (try simp only [List.set_cons_zero])
        refine wpAnyH_ready (rs := [2, 4]) (by kernel_rfl) (by simp) ?_
        refine AllReadyH.cons (o := { dst := some 27, op := Op.call { callee := Callee.value (Operand.func 11), args := #[Operand.tmp 26], argTypes := #[32] }, type := 38, pos := "law.go:69", after := #[{ on := 1, ground := Ground.data }], guard := none }) rfl (fun K hK => ?_) ?_
        · skip
          go_simp
          go_at_call 11
          refine (make_any o _ OO.out).mono ?_
          rintro e v1 ⟨p2, rfl, hv, hb⟩
          have W2' := Lib.hid (W2.out.below (hb))
          have B5' := Lib.hid (B5.out.below (hb))
          have H' := Lib.hid (H.out.below (hb))
          have HI' := Lib.hid (HI.out.below (hb))
          have B7' := Lib.hid (B7.out.below (hb))
          have BB' := Lib.hid (BB.out.trans ((hb).mono BB.out.size))
          clear W2
          have W2 := W2'
          clear W2'
          clear B5
          have B5 := B5'
          clear B5'
          clear H
          have H := H'
          clear H'
          clear HI
          have HI := HI'
          clear HI'
          clear B7
          have B7 := B7'
          clear B7'
          clear BB
          have BB := BB'
          clear BB'
          clear hb
          have P2 := Lib.hid (hv)
          clear hv
          go_simp
          refine hK.out _ _ ?_ (fun hHeld => ?_)
          · exact ⟨B5.out.cells1.1, B7.out.cell 0, B7.out.cell 1, B7.out.cell 2, B7.out.cell 3, B7.out.cell 4, B7.out.cell 5⟩
          clear hK K
          (try simp only [Act.put])
          (try simp only [List.setIfInBounds_toArray])
          (try simp only [List.set_cons_succ])
          (try simp only [List.set_cons_zero])
          refine wpAnyH_ready (rs := [3, 4]) (by kernel_rfl) (by simp) ?_
          refine AllReadyH.cons (o := { dst := some 28, op := Op.call { callee := Callee.value (Operand.func 10), args := #[Operand.tmp 25, Operand.tmp 27], argTypes := #[29, 38] }, type := 29, pos := "law.go:69", after := #[{ on := 0, ground := Ground.data }, { on := 2, ground := Ground.data }, { on := 2, ground := Ground.chain }], guard := none }) rfl (fun K hK => ?_) ?_
          · skip
            go_simp
            go_at_call 10
            have hltz5 := B5.out.lt
            (try have hltzN := B8.out.lt)
            refine (add_any _ q (o.msg, p2) _ H.out P2.out (by omega)).mono ?_
            rintro e v2 ⟨bz, hbz7, rfl, hh, hb⟩
            have W2' := Lib.hid (W2.out.below (hb))
            have B5' := Lib.hid (B5.out.below (hb))
            have H' := Lib.hid (H.out.below (hb))
            have HI' := Lib.hid (HI.out.below (hb))
            have B7' := Lib.hid (B7.out.below (hb))
            have P2' := Lib.hid (P2.out.below (hb))
            have BB' := Lib.hid (BB.out.trans ((hb).mono BB.out.size))
            clear W2
            have W2 := W2'
            clear W2'
            clear B5
            have B5 := B5'
            clear B5'
            clear H
            have H := H'
            clear H'
            clear HI
            have HI := HI'
            clear HI'
            clear B7
            have B7 := B7'
            clear B7'
            clear P2
            have P2 := P2'
            clear P2'
            clear BB
            have BB := BB'
            clear BB'
            clear hb
            have HZ := Lib.hid (hh)
            clear P2
            clear hh
            rw [show (q ++ [(o.msg, p2)]).length = k + 1 + 1 by rw [List.length_append, hql]; rfl] at HZ ⊢
            go_simp
            refine hK.out _ _ ?_ (fun hHeld => ?_)
            · exact ⟨B5.out.cells1.1, B7.out.cell 0, B7.out.cell 1, B7.out.cell 2, B7.out.cell 3, B7.out.cell 4, B7.out.cell 5⟩
            clear hK K
            (try simp only [Act.put])
            (try simp only [List.setIfInBounds_toArray])
            (try simp only [List.set_cons_succ])
            (try simp only [List.set_cons_zero])
            refine wpAnyH_ready (rs := [4]) (by kernel_rfl) (by simp) ?_
            refine AllReadyH.cons (o := { dst := some 8, op := Op.alloc 29, type := 0, pos := "law.go:69", after := #[], guard := none }) rfl (fun K hK => ?_) AllReadyH.nil
            go_simp
            have hlt_b8 := BB.out.size
            have hlt_b8_W2 := W2.out.lt
            have hlt_b8_B5 := B5.out.lt
            have hlt_b8_B7 := B7.out.lt
            have hlt_b8_H := H.out.blt
            have hlt_b8_HZ := HZ.out.blt
            have W2' := Lib.hid (W2.out.below (below_new v2 (.cells #[.slice none 0 0] 29)))
            have B5' := Lib.hid (B5.out.below (below_new v2 (.cells #[.slice none 0 0] 29)))
            have H' := Lib.hid (H.out.below (below_new v2 (.cells #[.slice none 0 0] 29)))
            have HI' := Lib.hid (HI.out.below (below_new v2 (.cells #[.slice none 0 0] 29)))
            have B7' := Lib.hid (B7.out.below (below_new v2 (.cells #[.slice none 0 0] 29)))
            have HZ' := Lib.hid (HZ.out.below (below_new v2 (.cells #[.slice none 0 0] 29)))
            have BB' := Lib.hid (BB.out.trans ((below_new v2 (.cells #[.slice none 0 0] 29)).mono BB.out.size))
            clear W2
            have W2 := W2'
            clear W2'
            clear B5
            have B5 := B5'
            clear B5'
            clear H
            have H := H'
            clear H'
            clear HI
            have HI := HI'
            clear HI'
            clear B7
            have B7 := B7'
            clear B7'
            clear HZ
            have HZ := HZ'
            clear HZ'
            clear BB
            have BB := BB'
            clear BB'
            have B8 := Lib.hid (Box.new v2 #[.slice none 0 0] 29 rfl)
            generalize World.alloc v2 (.cells #[.slice none 0 0] 29) = v3 at *
            generalize World.heap v2 = hp_b8 at *
            generalize hp_b8.size = b8 at *
            refine hK.out _ _ ?_ (fun hHeld => ?_)
            · exact ⟨B5.out.cells1.1, B7.out.cell 0, B7.out.cell 1, B7.out.cell 2, B7.out.cell 3, B7.out.cell 4, B7.out.cell 5⟩
            clear hK K
            (try simp only [Act.put])
            (try simp only [List.setIfInBounds_toArray])
            (try simp only [List.set_cons_succ])
            (try simp only [List.set_cons_zero])
            refine wpAnyH_ready (rs := [5]) (by kernel_rfl) (by simp) ?_
            refine AllReadyH.cons (o := { dst := none, op := Op.store 29 (Operand.tmp 8) (Operand.tmp 28), type := 0, pos := "law.go:69", after := #[{ on := 4, ground := Ground.data }, { on := 3, ground := Ground.data }, { on := 3, ground := Ground.chain }, { on := 0, ground := Ground.phase }, { on := 1, ground := Ground.phase }, { on := 2, ground := Ground.phase }, { on := 3, ground := Ground.phase }, { on := 4, ground := Ground.phase }], guard := none }) rfl (fun K hK => ?_) AllReadyH.nil
            obtain ⟨m0, g0⟩ := B8.out.cells1
            go_simp
            clear m0 g0
            have W2' := Lib.hid (W2.out.only (by omega) ((Only.refl b8 v3).set 0 (.slice (some ⟨bz, 0, none⟩) (k + 1 + 1) (k + 1 + 1))))
            have B5' := Lib.hid (B5.out.only (by omega) ((Only.refl b8 v3).set 0 (.slice (some ⟨bz, 0, none⟩) (k + 1 + 1) (k + 1 + 1))))
            have H' := Lib.hid (H.out.only B8.out (fun a n c e => by cases e; simp only; omega) ((Only.refl b8 v3).set 0 (.slice (some ⟨bz, 0, none⟩) (k + 1 + 1) (k + 1 + 1))))
            have HI' := Lib.hid (HI.out.only (by omega) ((Only.refl b8 v3).set 0 (.slice (some ⟨bz, 0, none⟩) (k + 1 + 1) (k + 1 + 1))))
            have B7' := Lib.hid (B7.out.only (by omega) ((Only.refl b8 v3).set 0 (.slice (some ⟨bz, 0, none⟩) (k + 1 + 1) (k + 1 + 1))))
            have HZ' := Lib.hid (HZ.out.only B8.out (fun a n c e => by cases e; simp only; omega) ((Only.refl b8 v3).set 0 (.slice (some ⟨bz, 0, none⟩) (k + 1 + 1) (k + 1 + 1))))
            have B8' := Lib.hid ((B8.out).set 0 (.slice (some ⟨bz, 0, none⟩) (k + 1 + 1) (k + 1 + 1)))
            have BB' := Lib.hid ((BB.out).put b8 (by omega) 0 (.slice (some ⟨bz, 0, none⟩) (k + 1 + 1) (k + 1 + 1)))
            clear W2
            have W2 := W2'
            clear W2'
            clear B5
            have B5 := B5'
            clear B5'
            clear H
            have H := H'
            clear H'
            clear HI
            have HI := HI'
            clear HI'
            clear B7
            have B7 := B7'
            clear B7'
            clear HZ
            have HZ := HZ'
            clear HZ'
            clear B8
            have B8 := B8'
            clear B8'
            clear BB
            have BB := BB'
            clear BB'
            generalize (World.setCell v3 ⟨b8, 0, none⟩ (.slice (some ⟨bz, 0, none⟩) (k + 1 + 1) (k + 1 + 1))) = v4 at *
            refine hK.out _ _ ?_ (fun hHeld => ?_)
            · exact ⟨B5.out.cells1.1, B7.out.cell 0, B7.out.cell 1, B7.out.cell 2, B7.out.cell 3, B7.out.cell 4, B7.out.cell 5⟩
            clear hK K
            (try simp only [Act.put])
            (try simp only [List.setIfInBounds_toArray])
            (try simp only [List.set_cons_succ])
            (try simp only [List.set_cons_zero])
            refine wpAnyH_done (by kernel_rfl) ?_ _
            go_wp2
            go_meet
            case rel => exact ⟨b8, bz, q ++ [(o.msg, p2)], rfl, by omega, by omega, by rw [HT.out, List.map_append, HQ.out]; rfl, by rw [List.length_append, hql]; rfl, B8.out, HZ.out, W2.out, B5.out, H.out, HI.out, BB.out⟩
          refine AllReadyH.cons (o := { dst := some 8, op := Op.alloc 29, type := 0, pos := "law.go:69", after := #[], guard := none }) rfl (fun K hK => ?_) AllReadyH.nil
          go_simp
          have hlt_b8 := BB.out.size
          have hlt_b8_W2 := W2.out.lt
          have hlt_b8_B5 := B5.out.lt
          have hlt_b8_B7 := B7.out.lt
          have hlt_b8_H := H.out.blt
          have W2' := Lib.hid (W2.out.below (below_new v1 (.cells #[.slice none 0 0] 29)))
          have B5' := Lib.hid (B5.out.below (below_new v1 (.cells #[.slice none 0 0] 29)))
          have H' := Lib.hid (H.out.below (below_new v1 (.cells #[.slice none 0 0] 29)))
          have HI' := Lib.hid (HI.out.below (below_new v1 (.cells #[.slice none 0 0] 29)))
          have B7' := Lib.hid (B7.out.below (below_new v1 (.cells #[.slice none 0 0] 29)))
          have P2' := Lib.hid (P2.out.below (below_new v1 (.cells #[.slice none 0 0] 29)))
          have BB' := Lib.hid (BB.out.trans ((below_new v1 (.cells #[.slice none 0 0] 29)).mono BB.out.size))
          clear W2
          have W2 := W2'
          clear W2'
          clear B5
          have B5 := B5'
          clear B5'
          clear H
          have H := H'
          clear H'
          clear HI
          have HI := HI'
          clear HI'
          clear B7
          have B7 := B7'
          clear B7'
          clear P2
          have P2 := P2'
          clear P2'
          clear BB
          have BB := BB'
          clear BB'
          have B8 := Lib.hid (Box.new v1 #[.slice none 0 0] 29 rfl)
          generalize World.alloc v1 (.cells #[.slice none 0 0] 29) = v5 at *
          generalize World.heap v1 = hp_b8 at *
          generalize hp_b8.size = b8 at *
          refine hK.out _ _ ?_ (fun hHeld => ?_)
          · exact ⟨B5.out.cells1.1, B7.out.cell 0, B7.out.cell 1, B7.out.cell 2, B7.out.cell 3, B7.out.cell 4, B7.out.cell 5⟩
          clear hK K
          (try simp only [Act.put])
          (try simp only [List.setIfInBounds_toArray])
          (try simp only [List.set_cons_succ])
          (try simp only [List.set_cons_zero])
          refine wpAnyH_ready (rs := [3]) (by kernel_rfl) (by simp) ?_
          refine AllReadyH.cons (o := { dst := some 28, op := Op.call { callee := Callee.value (Operand.func 10), args := #[Operand.tmp 25, Operand.tmp 27], argTypes := #[29, 38] }, type := 29, pos := "law.go:69", after := #[{ on := 0, ground := Ground.data }, { on := 2, ground := Ground.data }, { on := 2, ground := Ground.chain }], guard := none }) rfl (fun K hK => ?_) AllReadyH.nil
          go_simp
          go_at_call 10
          have hltz5 := B5.out.lt
          (try have hltzN := B8.out.lt)
          refine (add_any _ q (o.msg, p2) _ H.out P2.out (by omega)).mono ?_
          rintro e v6 ⟨bz, hbz7, rfl, hh, hb⟩
          have W2' := Lib.hid (W2.out.below (hb))
          have B5' := Lib.hid (B5.out.below (hb))
          have H' := Lib.hid (H.out.below (hb))
          have HI' := Lib.hid (HI.out.below (hb))
          have B7' := Lib.hid (B7.out.below (hb))
          have P2' := Lib.hid (P2.out.below (hb))
          have B8' := Lib.hid (B8.out.below (hb))
          have BB' := Lib.hid (BB.out.trans ((hb).mono BB.out.size))
          clear W2
          have W2 := W2'
          clear W2'
          clear B5
          have B5 := B5'
          clear B5'
          clear H
          have H := H'
          clear H'
          clear HI
          have HI := HI'
          clear HI'
          clear B7
          have B7 := B7'
          clear B7'
          clear P2
          have P2 := P2'
          clear P2'
          clear B8
          have B8 := B8'
          clear B8'
          clear BB
          have BB := BB'
          clear BB'
          clear hb
          have HZ := Lib.hid (hh)
          clear P2
          clear hh
          rw [show (q ++ [(o.msg, p2)]).length = k + 1 + 1 by rw [List.length_append, hql]; rfl] at HZ ⊢
          go_simp
          refine hK.out _ _ ?_ (fun hHeld => ?_)
          · exact ⟨B5.out.cells1.1, B7.out.cell 0, B7.out.cell 1, B7.out.cell 2, B7.out.cell 3, B7.out.cell 4, B7.out.cell 5⟩
          clear hK K
          (try simp only [Act.put])
          (try simp only [List.setIfInBounds_toArray])
          (try simp only [List.set_cons_succ])
          (try simp only [List.set_cons_zero])
          refine wpAnyH_ready (rs := [5]) (by kernel_rfl) (by simp) ?_
          refine AllReadyH.cons (o := { dst := none, op := Op.store 29 (Operand.tmp 8) (Operand.tmp 28), type := 0, pos := "law.go:69", after := #[{ on := 4, ground := Ground.data }, { on := 3, ground := Ground.data }, { on := 3, ground := Ground.chain }, { on := 0, ground := Ground.phase }, { on := 1, ground := Ground.phase }, { on := 2, ground := Ground.phase }, { on := 3, ground := Ground.phase }, { on := 4, ground := Ground.phase }], guard := none }) rfl (fun K hK => ?_) AllReadyH.nil
          obtain ⟨m0, g0⟩ := B8.out.cells1
          go_simp
          clear m0 g0
          have W2' := Lib.hid (W2.out.only (by omega) ((Only.refl b8 v6).set 0 (.slice (some ⟨bz, 0, none⟩) (k + 1 + 1) (k + 1 + 1))))
          have B5' := Lib.hid (B5.out.only (by omega) ((Only.refl b8 v6).set 0 (.slice (some ⟨bz, 0, none⟩) (k + 1 + 1) (k + 1 + 1))))
          have H' := Lib.hid (H.out.only B8.out (fun a n c e => by cases e; simp only; omega) ((Only.refl b8 v6).set 0 (.slice (some ⟨bz, 0, none⟩) (k + 1 + 1) (k + 1 + 1))))
          have HI' := Lib.hid (HI.out.only (by omega) ((Only.refl b8 v6).set 0 (.slice (some ⟨bz, 0, none⟩) (k + 1 + 1) (k + 1 + 1))))
          have B7' := Lib.hid (B7.out.only (by omega) ((Only.refl b8 v6).set 0 (.slice (some ⟨bz, 0, none⟩) (k + 1 + 1) (k + 1 + 1))))
          have B8' := Lib.hid ((B8.out).set 0 (.slice (some ⟨bz, 0, none⟩) (k + 1 + 1) (k + 1 + 1)))
          have HZ' := Lib.hid (HZ.out.only B8.out (fun a n c e => by cases e; simp only; omega) ((Only.refl b8 v6).set 0 (.slice (some ⟨bz, 0, none⟩) (k + 1 + 1) (k + 1 + 1))))
          have BB' := Lib.hid ((BB.out).put b8 (by omega) 0 (.slice (some ⟨bz, 0, none⟩) (k + 1 + 1) (k + 1 + 1)))
          clear W2
          have W2 := W2'
          clear W2'
          clear B5
          have B5 := B5'
          clear B5'
          clear H
          have H := H'
          clear H'
          clear HI
          have HI := HI'
          clear HI'
          clear B7
          have B7 := B7'
          clear B7'
          clear B8
          have B8 := B8'
          clear B8'
          clear HZ
          have HZ := HZ'
          clear HZ'
          clear BB
          have BB := BB'
          clear BB'
          generalize (World.setCell v6 ⟨b8, 0, none⟩ (.slice (some ⟨bz, 0, none⟩) (k + 1 + 1) (k + 1 + 1))) = v7 at *
          refine hK.out _ _ ?_ (fun hHeld => ?_)
          · exact ⟨B5.out.cells1.1, B7.out.cell 0, B7.out.cell 1, B7.out.cell 2, B7.out.cell 3, B7.out.cell 4, B7.out.cell 5⟩
          clear hK K
          (try simp only [Act.put])
          (try simp only [List.setIfInBounds_toArray])
          (try simp only [List.set_cons_succ])
          (try simp only [List.set_cons_zero])
          refine wpAnyH_done (by kernel_rfl) ?_ _
          go_wp2
          go_meet
          case rel => exact ⟨b8, bz, q ++ [(o.msg, p2)], rfl, by omega, by omega, by rw [HT.out, List.map_append, HQ.out]; rfl, by rw [List.length_append, hql]; rfl, B8.out, HZ.out, W2.out, B5.out, H.out, HI.out, BB.out⟩
        refine AllReadyH.cons (o := { dst := some 8, op := Op.alloc 29, type := 0, pos := "law.go:69", after := #[], guard := none }) rfl (fun K hK => ?_) AllReadyH.nil
        go_simp
        have hlt_b8 := BB.out.size
        have hlt_b8_W2 := W2.out.lt
        have hlt_b8_B5 := B5.out.lt
        have hlt_b8_B7 := B7.out.lt
        have hlt_b8_H := H.out.blt
        have W2' := Lib.hid (W2.out.below (below_new V0 (.cells #[.slice none 0 0] 29)))
        have B5' := Lib.hid (B5.out.below (below_new V0 (.cells #[.slice none 0 0] 29)))
        have H' := Lib.hid (H.out.below (below_new V0 (.cells #[.slice none 0 0] 29)))
        have HI' := Lib.hid (HI.out.below (below_new V0 (.cells #[.slice none 0 0] 29)))
        have B7' := Lib.hid (B7.out.below (below_new V0 (.cells #[.slice none 0 0] 29)))
        have BB' := Lib.hid (BB.out.trans ((below_new V0 (.cells #[.slice none 0 0] 29)).mono BB.out.size))
        clear W2
        have W2 := W2'
        clear W2'
        clear B5
        have B5 := B5'
        clear B5'
        clear H
        have H := H'
        clear H'
        clear HI
        have HI := HI'
        clear HI'
        clear B7
        have B7 := B7'
        clear B7'
        clear BB
        have BB := BB'
        clear BB'
        have B8 := Lib.hid (Box.new V0 #[.slice none 0 0] 29 rfl)
        generalize World.alloc V0 (.cells #[.slice none 0 0] 29) = v8 at *
        generalize World.heap V0 = hp_b8 at *
        generalize hp_b8.size = b8 at *
        refine hK.out _ _ ?_ (fun hHeld => ?_)
        · exact ⟨B5.out.cells1.1, B7.out.cell 0, B7.out.cell 1, B7.out.cell 2, B7.out.cell 3, B7.out.cell 4, B7.out.cell 5⟩
        clear hK K
        (try simp only [Act.put])
        (try simp only [List.setIfInBounds_toArray])
        (try simp only [List.set_cons_succ])
        (try simp only [List.set_cons_zero])
        refine wpAnyH_ready (rs := [2]) (by kernel_rfl) (by simp) ?_
        refine AllReadyH.cons (o := { dst := some 27, op := Op.call { callee := Callee.value (Operand.func 11), args := #[Operand.tmp 26], argTypes := #[32] }, type := 38, pos := "law.go:69", after := #[{ on := 1, ground := Ground.data }], guard := none }) rfl (fun K hK => ?_) AllReadyH.nil
        go_simp
        go_at_call 11
        refine (make_any o _ OO.out).mono ?_
        rintro e v9 ⟨p2, rfl, hv, hb⟩
        have W2' := Lib.hid (W2.out.below (hb))
        have B5' := Lib.hid (B5.out.below (hb))
        have H' := Lib.hid (H.out.below (hb))
        have HI' := Lib.hid (HI.out.below (hb))
        have B7' := Lib.hid (B7.out.below (hb))
        have B8' := Lib.hid (B8.out.below (hb))
        have BB' := Lib.hid (BB.out.trans ((hb).mono BB.out.size))
        clear W2
        have W2 := W2'
        clear W2'
        clear B5
        have B5 := B5'
        clear B5'
        clear H
        have H := H'
        clear H'
        clear HI
        have HI := HI'
        clear HI'
        clear B7
        have B7 := B7'
        clear B7'
        clear B8
        have B8 := B8'
        clear B8'
        clear BB
        have BB := BB'
        clear BB'
        clear hb
        have P2 := Lib.hid (hv)
        clear hv
        go_simp
        refine hK.out _ _ ?_ (fun hHeld => ?_)
        · exact ⟨B5.out.cells1.1, B7.out.cell 0, B7.out.cell 1, B7.out.cell 2, B7.out.cell 3, B7.out.cell 4, B7.out.cell 5⟩
        clear hK K
        (try simp only [Act.put])
        (try simp only [List.setIfInBounds_toArray])
        (try simp only [List.set_cons_succ])
        (try simp only [List.set_cons_zero])
        refine wpAnyH_ready (rs := [3]) (by kernel_rfl) (by simp) ?_
        refine AllReadyH.cons (o := { dst := some 28, op := Op.call { callee := Callee.value (Operand.func 10), args := #[Operand.tmp 25, Operand.tmp 27], argTypes := #[29, 38] }, type := 29, pos := "law.go:69", after := #[{ on := 0, ground := Ground.data }, { on := 2, ground := Ground.data }, { on := 2, ground := Ground.chain }], guard := none }) rfl (fun K hK => ?_) AllReadyH.nil
        go_simp
        go_at_call 10
        have hltz5 := B5.out.lt
        (try have hltzN := B8.out.lt)
        refine (add_any _ q (o.msg, p2) _ H.out P2.out (by omega)).mono ?_
        rintro e v10 ⟨bz, hbz7, rfl, hh, hb⟩
        have W2' := Lib.hid (W2.out.below (hb))
        have B5' := Lib.hid (B5.out.below (hb))
        have H' := Lib.hid (H.out.below (hb))
        have HI' := Lib.hid (HI.out.below (hb))
        have B7' := Lib.hid (B7.out.below (hb))
        have B8' := Lib.hid (B8.out.below (hb))
        have P2' := Lib.hid (P2.out.below (hb))
        have BB' := Lib.hid (BB.out.trans ((hb).mono BB.out.size))
        clear W2
        have W2 := W2'
        clear W2'
        clear B5
        have B5 := B5'
        clear B5'
        clear H
        have H := H'
        clear H'
        clear HI
        have HI := HI'
        clear HI'
        clear B7
        have B7 := B7'
        clear B7'
        clear B8
        have B8 := B8'
        clear B8'
        clear P2
        have P2 := P2'
        clear P2'
        clear BB
        have BB := BB'
        clear BB'
        clear hb
        have HZ := Lib.hid (hh)
        clear P2
        clear hh
        rw [show (q ++ [(o.msg, p2)]).length = k + 1 + 1 by rw [List.length_append, hql]; rfl] at HZ ⊢
        go_simp
        refine hK.out _ _ ?_ (fun hHeld => ?_)
        · exact ⟨B5.out.cells1.1, B7.out.cell 0, B7.out.cell 1, B7.out.cell 2, B7.out.cell 3, B7.out.cell 4, B7.out.cell 5⟩
        clear hK K
        (try simp only [Act.put])
        (try simp only [List.setIfInBounds_toArray])
        (try simp only [List.set_cons_succ])
        (try simp only [List.set_cons_zero])
        refine wpAnyH_ready (rs := [5]) (by kernel_rfl) (by simp) ?_
        refine AllReadyH.cons (o := { dst := none, op := Op.store 29 (Operand.tmp 8) (Operand.tmp 28), type := 0, pos := "law.go:69", after := #[{ on := 4, ground := Ground.data }, { on := 3, ground := Ground.data }, { on := 3, ground := Ground.chain }, { on := 0, ground := Ground.phase }, { on := 1, ground := Ground.phase }, { on := 2, ground := Ground.phase }, { on := 3, ground := Ground.phase }, { on := 4, ground := Ground.phase }], guard := none }) rfl (fun K hK => ?_) AllReadyH.nil
        obtain ⟨m0, g0⟩ := B8.out.cells1
        go_simp
        clear m0 g0
        have W2' := Lib.hid (W2.out.only (by omega) ((Only.refl b8 v10).set 0 (.slice (some ⟨bz, 0, none⟩) (k + 1 + 1) (k + 1 + 1))))
        have B5' := Lib.hid (B5.out.only (by omega) ((Only.refl b8 v10).set 0 (.slice (some ⟨bz, 0, none⟩) (k + 1 + 1) (k + 1 + 1))))
        have H' := Lib.hid (H.out.only B8.out (fun a n c e => by cases e; simp only; omega) ((Only.refl b8 v10).set 0 (.slice (some ⟨bz, 0, none⟩) (k + 1 + 1) (k + 1 + 1))))
        have HI' := Lib.hid (HI.out.only (by omega) ((Only.refl b8 v10).set 0 (.slice (some ⟨bz, 0, none⟩) (k + 1 + 1) (k + 1 + 1))))
        have B7' := Lib.hid (B7.out.only (by omega) ((Only.refl b8 v10).set 0 (.slice (some ⟨bz, 0, none⟩) (k + 1 + 1) (k + 1 + 1))))
        have B8' := Lib.hid ((B8.out).set 0 (.slice (some ⟨bz, 0, none⟩) (k + 1 + 1) (k + 1 + 1)))
        have HZ' := Lib.hid (HZ.out.only B8.out (fun a n c e => by cases e; simp only; omega) ((Only.refl b8 v10).set 0 (.slice (some ⟨bz, 0, none⟩) (k + 1 + 1) (k + 1 + 1))))
        have BB' := Lib.hid ((BB.out).put b8 (by omega) 0 (.slice (some ⟨bz, 0, none⟩) (k + 1 + 1) (k + 1 + 1)))
        clear W2
        have W2 := W2'
        clear W2'
        clear B5
        have B5 := B5'
        clear B5'
        clear H
        have H := H'
        clear H'
        clear HI
        have HI := HI'
        clear HI'
        clear B7
        have B7 := B7'
        clear B7'
        clear B8
        have B8 := B8'
        clear B8'
        clear HZ
        have HZ := HZ'
        clear HZ'
        clear BB
        have BB := BB'
        clear BB'
        generalize (World.setCell v10 ⟨b8, 0, none⟩ (.slice (some ⟨bz, 0, none⟩) (k + 1 + 1) (k + 1 + 1))) = v11 at *
        refine hK.out _ _ ?_ (fun hHeld => ?_)
        · exact ⟨B5.out.cells1.1, B7.out.cell 0, B7.out.cell 1, B7.out.cell 2, B7.out.cell 3, B7.out.cell 4, B7.out.cell 5⟩
        clear hK K
        (try simp only [Act.put])
        (try simp only [List.setIfInBounds_toArray])
        (try simp only [List.set_cons_succ])
        (try simp only [List.set_cons_zero])
        refine wpAnyH_done (by kernel_rfl) ?_ _
        go_wp2
        go_meet
        case rel => exact ⟨b8, bz, q ++ [(o.msg, p2)], rfl, by omega, by omega, by rw [HT.out, List.map_append, HQ.out]; rfl, by rw [List.length_append, hql]; rfl, B8.out, HZ.out, W2.out, B5.out, H.out, HI.out, BB.out⟩
      case rest =>
        obtain ⟨b8, bz, qz, rfl, hz5, h85, hzm, hzl, B8', HZ', W2', B5', H', HI', BB'⟩ := hcut
        clear W2 B5 H HI B7 BB
        have B8 := Lib.hid B8'
        clear B8'
        have HZ := Lib.hid HZ'
        clear HZ'
        have W2 := Lib.hid W2'
        clear W2'
        have B5 := Lib.hid B5'
        clear B5'
        have H := Lib.hid H'
        clear H'
        have HI := Lib.hid HI'
        clear HI'
        have BB := Lib.hid BB'
        clear BB'
        have HZM := Lib.hid hzm
        clear hzm
        go_upto_region 8 with fail
        go_cut [9] (fun s9 wx => ∃ b9 bw p3, s9 = .pointer (some ⟨b9, 0, none⟩) ∧ Box wx b9 #[.slice (some ⟨bw, 0, none⟩) (k + 1 + 1) (k + 1 + 1)] 29 ∧ HW wx (.slice (some ⟨bw, 0, none⟩) (k + 1 + 1) (k + 1 + 1)) (q ++ [(one9.msg, p3)]) ∧ Box wx b8 #[.slice (some ⟨bz, 0, none⟩) (k + 1 + 1) (k + 1 + 1)] 29 ∧ HW wx (.slice (some ⟨bz, 0, none⟩) (k + 1 + 1) (k + 1 + 1)) qz ∧ Box wx b2 #[.int .i64 x, .int .u32 y, .int .u32 z] 24 ∧ Box wx b5 #[.slice (some ⟨bq, 0, none⟩) (k + 1) (k + 1)] 29 ∧ HW wx (.slice (some ⟨bq, 0, none⟩) (k + 1) (k + 1)) q ∧ IsOnes wx (.slice (some ⟨bo, off, none⟩) n cap) l ∧ Below w.heap.size w wx)
        case first =>
          have W2' := Lib.hid (W2.out.below ((Below.refl _ _).drew))
          have B5' := Lib.hid (B5.out.below ((Below.refl _ _).drew))
          have H' := Lib.hid (H.out.below ((Below.refl _ _).drew))
          have HI' := Lib.hid (HI.out.below ((Below.refl _ _).drew))
          have B8' := Lib.hid (B8.out.below ((Below.refl _ _).drew))
          have HZ' := Lib.hid (HZ.out.below ((Below.refl _ _).drew))
          have BB' := Lib.hid (BB.out.trans (((Below.refl _ _).drew).mono BB.out.size))
          clear W2
          have W2 := W2'
          clear W2'
          clear B5
          have B5 := B5'
          clear B5'
          clear H
          have H := H'
          clear H'
          clear HI
          have HI := HI'
          clear HI'
          clear B8
          have B8 := B8'
          clear B8'
          clear HZ
          have HZ := HZ'
          clear HZ'
          clear BB
          have BB := BB'
          clear BB'
          refine wp_region_held_drew (S := fun w' => w'.cell? ⟨b5, 0, none⟩ = some (.slice (some ⟨bq, 0, none⟩) (k + 1) (k + 1))) (by kernel_rfl) B5.out.cells1.1 (fun hHeld => ?_)
          generalize World.drew wc = V12 at *
          refine wpAnyH_take (i := 0) (oi := { dst := some 29, op := Op.load 29 (Operand.tmp 5), type := 29, pos := "law.go:70", after := #[], guard := none }) (v := ?d13_1xv0) rfl (by kernel_rfl) (by kernel_rfl) (by kernel_rfl) (fun _ _ _ h => h) (Or.inl ⟨by rfl, ?d13_1xy0⟩) (by assumption) ?d13_1xr0
          case d13_1xy0 => (intro w hSw; (try dsimp only at hSw); go_simp; try with_reducible rfl)
          (try simp only [Act.put])
          (try simp only [List.setIfInBounds_toArray])
          (try simp only [List.set_cons_succ])
          (try simp only [List.set_cons_zero])
          refine wpAnyH_take (i := 1) (oi := { dst := some 30, op := Op.build 32 #[(1, Operand.const (Value.int IntKind.i64 (-9)))], type := 32, pos := "law.go:70", after := #[], guard := none }) (v := ?d13_2xv1) rfl (by kernel_rfl) (by kernel_rfl) (by kernel_rfl) (fun _ _ _ h => h) (Or.inl ⟨by rfl, ?d13_2xy1⟩) (by assumption) ?d13_2xr1
          case d13_2xy1 => (intro w hSw; (try dsimp only at hSw); go_simp; try with_reducible rfl)
          (try simp only [Act.put])
          (try simp only [List.setIfInBounds_toArray])
          (try simp only [List.set_cons_succ])
          (try simp only [List.set_cons_zero])
          refine wpAnyH_ready (rs := [2, 4]) (by kernel_rfl) (by simp) ?_
          refine AllReadyH.cons (o := { dst := some 31, op := Op.call { callee := Callee.value (Operand.func 11), args := #[Operand.tmp 30], argTypes := #[32] }, type := 38, pos := "law.go:70", after := #[{ on := 1, ground := Ground.data }], guard := none }) rfl (fun K hK => ?_) ?_
          · skip
            go_simp
            go_at_call 11
            refine (make_any one9 _ one9_ok).mono ?_
            rintro e v13 ⟨p3, rfl, hv, hb⟩
            have W2' := Lib.hid (W2.out.below (hb))
            have B5' := Lib.hid (B5.out.below (hb))
            have H' := Lib.hid (H.out.below (hb))
            have HI' := Lib.hid (HI.out.below (hb))
            have B8' := Lib.hid (B8.out.below (hb))
            have HZ' := Lib.hid (HZ.out.below (hb))
            have BB' := Lib.hid (BB.out.trans ((hb).mono BB.out.size))
            clear W2
            have W2 := W2'
            clear W2'
            clear B5
            have B5 := B5'
            clear B5'
            clear H
            have H := H'
            clear H'
            clear HI
            have HI := HI'
            clear HI'
            clear B8
            have B8 := B8'
            clear B8'
            clear HZ
            have HZ := HZ'
            clear HZ'
            clear BB
            have BB := BB'
            clear BB'
            clear hb
            have P2 := Lib.hid (hv)
            clear hv
            go_simp
            refine hK.out _ _ ?_ (fun hHeld => ?_)
            · exact B5.out.cells1.1
            clear hK K
            (try simp only [Act.put])
            (try simp only [List.setIfInBounds_toArray])
            (try simp only [List.set_cons_succ])
            (try simp only [List.set_cons_zero])
            refine wpAnyH_ready (rs := [3, 4]) (by kernel_rfl) (by simp) ?_
            refine AllReadyH.cons (o := { dst := some 32, op := Op.call { callee := Callee.value (Operand.func 10), args := #[Operand.tmp 29, Operand.tmp 31], argTypes := #[29, 38] }, type := 29, pos := "law.go:70", after := #[{ on := 0, ground := Ground.data }, { on := 2, ground := Ground.data }, { on := 2, ground := Ground.chain }], guard := none }) rfl (fun K hK => ?_) ?_
            · skip
              go_simp
              go_at_call 10
              have hltz5 := B5.out.lt
              (try have hltzN := B9.out.lt)
              refine (add_any _ q (one9.msg, p3) _ H.out P2.out (by omega)).mono ?_
              rintro e v14 ⟨bw, hbz8, rfl, hh, hb⟩
              have W2' := Lib.hid (W2.out.below (hb))
              have B5' := Lib.hid (B5.out.below (hb))
              have H' := Lib.hid (H.out.below (hb))
              have HI' := Lib.hid (HI.out.below (hb))
              have B8' := Lib.hid (B8.out.below (hb))
              have HZ' := Lib.hid (HZ.out.below (hb))
              have P2' := Lib.hid (P2.out.below (hb))
              have BB' := Lib.hid (BB.out.trans ((hb).mono BB.out.size))
              clear W2
              have W2 := W2'
              clear W2'
              clear B5
              have B5 := B5'
              clear B5'
              clear H
              have H := H'
              clear H'
              clear HI
              have HI := HI'
              clear HI'
              clear B8
              have B8 := B8'
              clear B8'
              clear HZ
              have HZ := HZ'
              clear HZ'
              clear P2
              have P2 := P2'
              clear P2'
              clear BB
              have BB := BB'
              clear BB'
              clear hb
              have HW9 := Lib.hid (hh)
              clear P2
              clear hh
              rw [show (q ++ [(one9.msg, p3)]).length = k + 1 + 1 by rw [List.length_append, hql]; rfl] at HW9 ⊢
              go_simp
              refine hK.out _ _ ?_ (fun hHeld => ?_)
              · exact B5.out.cells1.1
              clear hK K
              (try simp only [Act.put])
              (try simp only [List.setIfInBounds_toArray])
              (try simp only [List.set_cons_succ])
              (try simp only [List.set_cons_zero])
              refine wpAnyH_ready (rs := [4]) (by kernel_rfl) (by simp) ?_
              refine AllReadyH.cons (o := { dst := some 9, op := Op.alloc 29, type := 0, pos := "law.go:70", after := #[], guard := none }) rfl (fun K hK => ?_) AllReadyH.nil
              go_simp
              have hlt_b9 := BB.out.size
              have hlt_b9_W2 := W2.out.lt
              have hlt_b9_B5 := B5.out.lt
              have hlt_b9_B8 := B8.out.lt
              have hlt_b9_H := H.out.blt
              have hlt_b9_HZ := HZ.out.blt
              have hlt_b9_HW9 := HW9.out.blt
              have W2' := Lib.hid (W2.out.below (below_new v14 (.cells #[.slice none 0 0] 29)))
              have B5' := Lib.hid (B5.out.below (below_new v14 (.cells #[.slice none 0 0] 29)))
              have H' := Lib.hid (H.out.below (below_new v14 (.cells #[.slice none 0 0] 29)))
              have HI' := Lib.hid (HI.out.below (below_new v14 (.cells #[.slice none 0 0] 29)))
              have B8' := Lib.hid (B8.out.below (below_new v14 (.cells #[.slice none 0 0] 29)))
              have HZ' := Lib.hid (HZ.out.below (below_new v14 (.cells #[.slice none 0 0] 29)))
              have HW9' := Lib.hid (HW9.out.below (below_new v14 (.cells #[.slice none 0 0] 29)))
              have BB' := Lib.hid (BB.out.trans ((below_new v14 (.cells #[.slice none 0 0] 29)).mono BB.out.size))
              clear W2
              have W2 := W2'
              clear W2'
              clear B5
              have B5 := B5'
              clear B5'
              clear H
              have H := H'
              clear H'
              clear HI
              have HI := HI'
              clear HI'
              clear B8
              have B8 := B8'
              clear B8'
              clear HZ
              have HZ := HZ'
              clear HZ'
              clear HW9
              have HW9 := HW9'
              clear HW9'
              clear BB
              have BB := BB'
              clear BB'
              have B9 := Lib.hid (Box.new v14 #[.slice none 0 0] 29 rfl)
              generalize World.alloc v14 (.cells #[.slice none 0 0] 29) = v15 at *
              generalize World.heap v14 = hp_b9 at *
              generalize hp_b9.size = b9 at *
              refine hK.out _ _ ?_ (fun hHeld => ?_)
              · exact B5.out.cells1.1
              clear hK K
              (try simp only [Act.put])
              (try simp only [List.setIfInBounds_toArray])
              (try simp only [List.set_cons_succ])
              (try simp only [List.set_cons_zero])
              refine wpAnyH_ready (rs := [5]) (by kernel_rfl) (by simp) ?_
              refine AllReadyH.cons (o := { dst := none, op := Op.store 29 (Operand.tmp 9) (Operand.tmp 32), type := 0, pos := "law.go:70", after := #[{ on := 4, ground := Ground.data }, { on := 3, ground := Ground.data }, { on := 3, ground := Ground.chain }, { on := 0, ground := Ground.phase }, { on := 1, ground := Ground.phase }, { on := 2, ground := Ground.phase }, { on := 3, ground := Ground.phase }, { on := 4, ground := Ground.phase }], guard := none }) rfl (fun K hK => ?_) AllReadyH.nil
              obtain ⟨m0, g0⟩ := B9.out.cells1
              go_simp
              clear m0 g0
              have W2' := Lib.hid (W2.out.only (by omega) ((Only.refl b9 v15).set 0 (.slice (some ⟨bw, 0, none⟩) (k + 1 + 1) (k + 1 + 1))))
              have B5' := Lib.hid (B5.out.only (by omega) ((Only.refl b9 v15).set 0 (.slice (some ⟨bw, 0, none⟩) (k + 1 + 1) (k + 1 + 1))))
              have H' := Lib.hid (H.out.only B9.out (fun a n c e => by cases e; simp only; omega) ((Only.refl b9 v15).set 0 (.slice (some ⟨bw, 0, none⟩) (k + 1 + 1) (k + 1 + 1))))
              have HI' := Lib.hid (HI.out.only (by omega) ((Only.refl b9 v15).set 0 (.slice (some ⟨bw, 0, none⟩) (k + 1 + 1) (k + 1 + 1))))
              have B8' := Lib.hid (B8.out.only (by omega) ((Only.refl b9 v15).set 0 (.slice (some ⟨bw, 0, none⟩) (k + 1 + 1) (k + 1 + 1))))
              have HZ' := Lib.hid (HZ.out.only B9.out (fun a n c e => by cases e; simp only; omega) ((Only.refl b9 v15).set 0 (.slice (some ⟨bw, 0, none⟩) (k + 1 + 1) (k + 1 + 1))))
              have HW9' := Lib.hid (HW9.out.only B9.out (fun a n c e => by cases e; simp only; omega) ((Only.refl b9 v15).set 0 (.slice (some ⟨bw, 0, none⟩) (k + 1 + 1) (k + 1 + 1))))
              have B9' := Lib.hid ((B9.out).set 0 (.slice (some ⟨bw, 0, none⟩) (k + 1 + 1) (k + 1 + 1)))
              have BB' := Lib.hid ((BB.out).put b9 (by omega) 0 (.slice (some ⟨bw, 0, none⟩) (k + 1 + 1) (k + 1 + 1)))
              clear W2
              have W2 := W2'
              clear W2'
              clear B5
              have B5 := B5'
              clear B5'
              clear H
              have H := H'
              clear H'
              clear HI
              have HI := HI'
              clear HI'
              clear B8
              have B8 := B8'
              clear B8'
              clear HZ
              have HZ := HZ'
              clear HZ'
              clear HW9
              have HW9 := HW9'
              clear HW9'
              clear B9
              have B9 := B9'
              clear B9'
              clear BB
              have BB := BB'
              clear BB'
              generalize (World.setCell v15 ⟨b9, 0, none⟩ (.slice (some ⟨bw, 0, none⟩) (k + 1 + 1) (k + 1 + 1))) = v16 at *
              refine hK.out _ _ ?_ (fun hHeld => ?_)
              · exact B5.out.cells1.1
              clear hK K
              (try simp only [Act.put])
              (try simp only [List.setIfInBounds_toArray])
              (try simp only [List.set_cons_succ])
              (try simp only [List.set_cons_zero])
              refine wpAnyH_done (by kernel_rfl) ?_ _
              go_wp2
              go_meet
              case rel => exact ⟨b9, bw, p3, rfl, B9.out, HW9.out, B8.out, HZ.out, W2.out, B5.out, H.out, HI.out, BB.out⟩
            refine AllReadyH.cons (o := { dst := some 9, op := Op.alloc 29, type := 0, pos := "law.go:70", after := #[], guard := none }) rfl (fun K hK => ?_) AllReadyH.nil
            go_simp
            have hlt_b9 := BB.out.size
            have hlt_b9_W2 := W2.out.lt
            have hlt_b9_B5 := B5.out.lt
            have hlt_b9_B8 := B8.out.lt
            have hlt_b9_H := H.out.blt
            have hlt_b9_HZ := HZ.out.blt
            have W2' := Lib.hid (W2.out.below (below_new v13 (.cells #[.slice none 0 0] 29)))
            have B5' := Lib.hid (B5.out.below (below_new v13 (.cells #[.slice none 0 0] 29)))
            have H' := Lib.hid (H.out.below (below_new v13 (.cells #[.slice none 0 0] 29)))
            have HI' := Lib.hid (HI.out.below (below_new v13 (.cells #[.slice none 0 0] 29)))
            have B8' := Lib.hid (B8.out.below (below_new v13 (.cells #[.slice none 0 0] 29)))
            have HZ' := Lib.hid (HZ.out.below (below_new v13 (.cells #[.slice none 0 0] 29)))
            have P2' := Lib.hid (P2.out.below (below_new v13 (.cells #[.slice none 0 0] 29)))
            have BB' := Lib.hid (BB.out.trans ((below_new v13 (.cells #[.slice none 0 0] 29)).mono BB.out.size))
            clear W2
            have W2 := W2'
            clear W2'
            clear B5
            have B5 := B5'
            clear B5'
            clear H
            have H := H'
            clear H'
            clear HI
            have HI := HI'
            clear HI'
            clear B8
            have B8 := B8'
            clear B8'
            clear HZ
            have HZ := HZ'
            clear HZ'
            clear P2
            have P2 := P2'
            clear P2'
            clear BB
            have BB := BB'
            clear BB'
            have B9 := Lib.hid (Box.new v13 #[.slice none 0 0] 29 rfl)
            generalize World.alloc v13 (.cells #[.slice none 0 0] 29) = v17 at *
            generalize World.heap v13 = hp_b9 at *
            generalize hp_b9.size = b9 at *
            refine hK.out _ _ ?_ (fun hHeld => ?_)
            · exact B5.out.cells1.1
            clear hK K
            (try simp only [Act.put])
            (try simp only [List.setIfInBounds_toArray])
            (try simp only [List.set_cons_succ])
            (try simp only [List.set_cons_zero])
            refine wpAnyH_ready (rs := [3]) (by kernel_rfl) (by simp) ?_
            refine AllReadyH.cons (o := { dst := some 32, op := Op.call { callee := Callee.value (Operand.func 10), args := #[Operand.tmp 29, Operand.tmp 31], argTypes := #[29, 38] }, type := 29, pos := "law.go:70", after := #[{ on := 0, ground := Ground.data }, { on := 2, ground := Ground.data }, { on := 2, ground := Ground.chain }], guard := none }) rfl (fun K hK => ?_) AllReadyH.nil
            go_simp
            go_at_call 10
            have hltz5 := B5.out.lt
            (try have hltzN := B9.out.lt)
            refine (add_any _ q (one9.msg, p3) _ H.out P2.out (by omega)).mono ?_
            rintro e v18 ⟨bw, hbz8, rfl, hh, hb⟩
            have W2' := Lib.hid (W2.out.below (hb))
            have B5' := Lib.hid (B5.out.below (hb))
            have H' := Lib.hid (H.out.below (hb))
            have HI' := Lib.hid (HI.out.below (hb))
            have B8' := Lib.hid (B8.out.below (hb))
            have HZ' := Lib.hid (HZ.out.below (hb))
            have P2' := Lib.hid (P2.out.below (hb))
            have B9' := Lib.hid (B9.out.below (hb))
            have BB' := Lib.hid (BB.out.trans ((hb).mono BB.out.size))
            clear W2
            have W2 := W2'
            clear W2'
            clear B5
            have B5 := B5'
            clear B5'
            clear H
            have H := H'
            clear H'
            clear HI
            have HI := HI'
            clear HI'
            clear B8
            have B8 := B8'
            clear B8'
            clear HZ
            have HZ := HZ'
            clear HZ'
            clear P2
            have P2 := P2'
            clear P2'
            clear B9
            have B9 := B9'
            clear B9'
            clear BB
            have BB := BB'
            clear BB'
            clear hb
            have HW9 := Lib.hid (hh)
            clear P2
            clear hh
            rw [show (q ++ [(one9.msg, p3)]).length = k + 1 + 1 by rw [List.length_append, hql]; rfl] at HW9 ⊢
            go_simp
            refine hK.out _ _ ?_ (fun hHeld => ?_)
            · exact B5.out.cells1.1
            clear hK K
            (try simp only [Act.put])
            (try simp only [List.setIfInBounds_toArray])
            (try simp only [List.set_cons_succ])
            (try simp only [List.set_cons_zero])
            refine wpAnyH_ready (rs := [5]) (by kernel_rfl) (by simp) ?_
            refine AllReadyH.cons (o := { dst := none, op := Op.store 29 (Operand.tmp 9) (Operand.tmp 32), type := 0, pos := "law.go:70", after := #[{ on := 4, ground := Ground.data }, { on := 3, ground := Ground.data }, { on := 3, ground := Ground.chain }, { on := 0, ground := Ground.phase }, { on := 1, ground := Ground.phase }, { on := 2, ground := Ground.phase }, { on := 3, ground := Ground.phase }, { on := 4, ground := Ground.phase }], guard := none }) rfl (fun K hK => ?_) AllReadyH.nil
            obtain ⟨m0, g0⟩ := B9.out.cells1
            go_simp
            clear m0 g0
            have W2' := Lib.hid (W2.out.only (by omega) ((Only.refl b9 v18).set 0 (.slice (some ⟨bw, 0, none⟩) (k + 1 + 1) (k + 1 + 1))))
            have B5' := Lib.hid (B5.out.only (by omega) ((Only.refl b9 v18).set 0 (.slice (some ⟨bw, 0, none⟩) (k + 1 + 1) (k + 1 + 1))))
            have H' := Lib.hid (H.out.only B9.out (fun a n c e => by cases e; simp only; omega) ((Only.refl b9 v18).set 0 (.slice (some ⟨bw, 0, none⟩) (k + 1 + 1) (k + 1 + 1))))
            have HI' := Lib.hid (HI.out.only (by omega) ((Only.refl b9 v18).set 0 (.slice (some ⟨bw, 0, none⟩) (k + 1 + 1) (k + 1 + 1))))
            have B8' := Lib.hid (B8.out.only (by omega) ((Only.refl b9 v18).set 0 (.slice (some ⟨bw, 0, none⟩) (k + 1 + 1) (k + 1 + 1))))
            have HZ' := Lib.hid (HZ.out.only B9.out (fun a n c e => by cases e; simp only; omega) ((Only.refl b9 v18).set 0 (.slice (some ⟨bw, 0, none⟩) (k + 1 + 1) (k + 1 + 1))))
            have B9' := Lib.hid ((B9.out).set 0 (.slice (some ⟨bw, 0, none⟩) (k + 1 + 1) (k + 1 + 1)))
            have HW9' := Lib.hid (HW9.out.only B9.out (fun a n c e => by cases e; simp only; omega) ((Only.refl b9 v18).set 0 (.slice (some ⟨bw, 0, none⟩) (k + 1 + 1) (k + 1 + 1))))
            have BB' := Lib.hid ((BB.out).put b9 (by omega) 0 (.slice (some ⟨bw, 0, none⟩) (k + 1 + 1) (k + 1 + 1)))
            clear W2
            have W2 := W2'
            clear W2'
            clear B5
            have B5 := B5'
            clear B5'
            clear H
            have H := H'
            clear H'
            clear HI
            have HI := HI'
            clear HI'
            clear B8
            have B8 := B8'
            clear B8'
            clear HZ
            have HZ := HZ'
            clear HZ'
            clear B9
            have B9 := B9'
            clear B9'
            clear HW9
            have HW9 := HW9'
            clear HW9'
            clear BB
            have BB := BB'
            clear BB'
            generalize (World.setCell v18 ⟨b9, 0, none⟩ (.slice (some ⟨bw, 0, none⟩) (k + 1 + 1) (k + 1 + 1))) = v19 at *
            refine hK.out _ _ ?_ (fun hHeld => ?_)
            · exact B5.out.cells1.1
            clear hK K
            (try simp only [Act.put])
            (try simp only [List.setIfInBounds_toArray])
            (try simp only [List.set_cons_succ])
            (try simp only [List.set_cons_zero])
            refine wpAnyH_done (by kernel_rfl) ?_ _
            go_wp2
            go_meet
            case rel => exact ⟨b9, bw, p3, rfl, B9.out, HW9.out, B8.out, HZ.out, W2.out, B5.out, H.out, HI.out, BB.out⟩
          refine AllReadyH.cons (o := { dst := some 9, op := Op.alloc 29, type := 0, pos := "law.go:70", after := #[], guard := none }) rfl (fun K hK => ?_) AllReadyH.nil
          go_simp
          have hlt_b9 := BB.out.size
          have hlt_b9_W2 := W2.out.lt
          have hlt_b9_B5 := B5.out.lt
          have hlt_b9_B8 := B8.out.lt
          have hlt_b9_H := H.out.blt
          have hlt_b9_HZ := HZ.out.blt
          have W2' := Lib.hid (W2.out.below (below_new V12 (.cells #[.slice none 0 0] 29)))
          have B5' := Lib.hid (B5.out.below (below_new V12 (.cells #[.slice none 0 0] 29)))
          have H' := Lib.hid (H.out.below (below_new V12 (.cells #[.slice none 0 0] 29)))
          have HI' := Lib.hid (HI.out.below (below_new V12 (.cells #[.slice none 0 0] 29)))
          have B8' := Lib.hid (B8.out.below (below_new V12 (.cells #[.slice none 0 0] 29)))
          have HZ' := Lib.hid (HZ.out.below (below_new V12 (.cells #[.slice none 0 0] 29)))
          have BB' := Lib.hid (BB.out.trans ((below_new V12 (.cells #[.slice none 0 0] 29)).mono BB.out.size))
          clear W2
          have W2 := W2'
          clear W2'
          clear B5
          have B5 := B5'
          clear B5'
          clear H
          have H := H'
          clear H'
          clear HI
          have HI := HI'
          clear HI'
          clear B8
          have B8 := B8'
          clear B8'
          clear HZ
          have HZ := HZ'
          clear HZ'
          clear BB
          have BB := BB'
          clear BB'
          have B9 := Lib.hid (Box.new V12 #[.slice none 0 0] 29 rfl)
          generalize World.alloc V12 (.cells #[.slice none 0 0] 29) = v20 at *
          generalize World.heap V12 = hp_b9 at *
          generalize hp_b9.size = b9 at *
          refine hK.out _ _ ?_ (fun hHeld => ?_)
          · exact B5.out.cells1.1
          clear hK K
          (try simp only [Act.put])
          (try simp only [List.setIfInBounds_toArray])
          (try simp only [List.set_cons_succ])
          (try simp only [List.set_cons_zero])
          refine wpAnyH_ready (rs := [2]) (by kernel_rfl) (by simp) ?_
          refine AllReadyH.cons (o := { dst := some 31, op := Op.call { callee := Callee.value (Operand.func 11), args := #[Operand.tmp 30], argTypes := #[32] }, type := 38, pos := "law.go:70", after := #[{ on := 1, ground := Ground.data }], guard := none }) rfl (fun K hK => ?_) AllReadyH.nil
          go_simp
          go_at_call 11
          refine (make_any one9 _ one9_ok).mono ?_
          rintro e v21 ⟨p3, rfl, hv, hb⟩
          have W2' := Lib.hid (W2.out.below (hb))
          have B5' := Lib.hid (B5.out.below (hb))
          have H' := Lib.hid (H.out.below (hb))
          have HI' := Lib.hid (HI.out.below (hb))
          have B8' := Lib.hid (B8.out.below (hb))
          have HZ' := Lib.hid (HZ.out.below (hb))
          have B9' := Lib.hid (B9.out.below (hb))
          have BB' := Lib.hid (BB.out.trans ((hb).mono BB.out.size))
          clear W2
          have W2 := W2'
          clear W2'
          clear B5
          have B5 := B5'
          clear B5'
          clear H
          have H := H'
          clear H'
          clear HI
          have HI := HI'
          clear HI'
          clear B8
          have B8 := B8'
          clear B8'
          clear HZ
          have HZ := HZ'
          clear HZ'
          clear B9
          have B9 := B9'
          clear B9'
          clear BB
          have BB := BB'
          clear BB'
          clear hb
          have P2 := Lib.hid (hv)
          clear hv
          go_simp
          refine hK.out _ _ ?_ (fun hHeld => ?_)
          · exact B5.out.cells1.1
          clear hK K
          (try simp only [Act.put])
          (try simp only [List.setIfInBounds_toArray])
          (try simp only [List.set_cons_succ])
          (try simp only [List.set_cons_zero])
          refine wpAnyH_ready (rs := [3]) (by kernel_rfl) (by simp) ?_
          refine AllReadyH.cons (o := { dst := some 32, op := Op.call { callee := Callee.value (Operand.func 10), args := #[Operand.tmp 29, Operand.tmp 31], argTypes := #[29, 38] }, type := 29, pos := "law.go:70", after := #[{ on := 0, ground := Ground.data }, { on := 2, ground := Ground.data }, { on := 2, ground := Ground.chain }], guard := none }) rfl (fun K hK => ?_) AllReadyH.nil
          go_simp
          go_at_call 10
          have hltz5 := B5.out.lt
          (try have hltzN := B9.out.lt)
          refine (add_any _ q (one9.msg, p3) _ H.out P2.out (by omega)).mono ?_
          rintro e v22 ⟨bw, hbz8, rfl, hh, hb⟩
          have W2' := Lib.hid (W2.out.below (hb))
          have B5' := Lib.hid (B5.out.below (hb))
          have H' := Lib.hid (H.out.below (hb))
          have HI' := Lib.hid (HI.out.below (hb))
          have B8' := Lib.hid (B8.out.below (hb))
          have HZ' := Lib.hid (HZ.out.below (hb))
          have B9' := Lib.hid (B9.out.below (hb))
          have P2' := Lib.hid (P2.out.below (hb))
          have BB' := Lib.hid (BB.out.trans ((hb).mono BB.out.size))
          clear W2
          have W2 := W2'
          clear W2'
          clear B5
          have B5 := B5'
          clear B5'
          clear H
          have H := H'
          clear H'
          clear HI
          have HI := HI'
          clear HI'
          clear B8
          have B8 := B8'
          clear B8'
          clear HZ
          have HZ := HZ'
          clear HZ'
          clear B9
          have B9 := B9'
          clear B9'
          clear P2
          have P2 := P2'
          clear P2'
          clear BB
          have BB := BB'
          clear BB'
          clear hb
          have HW9 := Lib.hid (hh)
          clear P2
          clear hh
          rw [show (q ++ [(one9.msg, p3)]).length = k + 1 + 1 by rw [List.length_append, hql]; rfl] at HW9 ⊢
          go_simp
          refine hK.out _ _ ?_ (fun hHeld => ?_)
          · exact B5.out.cells1.1
          clear hK K
          (try simp only [Act.put])
          (try simp only [List.setIfInBounds_toArray])
          (try simp only [List.set_cons_succ])
          (try simp only [List.set_cons_zero])
          refine wpAnyH_ready (rs := [5]) (by kernel_rfl) (by simp) ?_
          refine AllReadyH.cons (o := { dst := none, op := Op.store 29 (Operand.tmp 9) (Operand.tmp 32), type := 0, pos := "law.go:70", after := #[{ on := 4, ground := Ground.data }, { on := 3, ground := Ground.data }, { on := 3, ground := Ground.chain }, { on := 0, ground := Ground.phase }, { on := 1, ground := Ground.phase }, { on := 2, ground := Ground.phase }, { on := 3, ground := Ground.phase }, { on := 4, ground := Ground.phase }], guard := none }) rfl (fun K hK => ?_) AllReadyH.nil
          obtain ⟨m0, g0⟩ := B9.out.cells1
          go_simp
          clear m0 g0
          have W2' := Lib.hid (W2.out.only (by omega) ((Only.refl b9 v22).set 0 (.slice (some ⟨bw, 0, none⟩) (k + 1 + 1) (k + 1 + 1))))
          have B5' := Lib.hid (B5.out.only (by omega) ((Only.refl b9 v22).set 0 (.slice (some ⟨bw, 0, none⟩) (k + 1 + 1) (k + 1 + 1))))
          have H' := Lib.hid (H.out.only B9.out (fun a n c e => by cases e; simp only; omega) ((Only.refl b9 v22).set 0 (.slice (some ⟨bw, 0, none⟩) (k + 1 + 1) (k + 1 + 1))))
          have HI' := Lib.hid (HI.out.only (by omega) ((Only.refl b9 v22).set 0 (.slice (some ⟨bw, 0, none⟩) (k + 1 + 1) (k + 1 + 1))))
          have B8' := Lib.hid (B8.out.only (by omega) ((Only.refl b9 v22).set 0 (.slice (some ⟨bw, 0, none⟩) (k + 1 + 1) (k + 1 + 1))))
          have HZ' := Lib.hid (HZ.out.only B9.out (fun a n c e => by cases e; simp only; omega) ((Only.refl b9 v22).set 0 (.slice (some ⟨bw, 0, none⟩) (k + 1 + 1) (k + 1 + 1))))
          have B9' := Lib.hid ((B9.out).set 0 (.slice (some ⟨bw, 0, none⟩) (k + 1 + 1) (k + 1 + 1)))
          have HW9' := Lib.hid (HW9.out.only B9.out (fun a n c e => by cases e; simp only; omega) ((Only.refl b9 v22).set 0 (.slice (some ⟨bw, 0, none⟩) (k + 1 + 1) (k + 1 + 1))))
          have BB' := Lib.hid ((BB.out).put b9 (by omega) 0 (.slice (some ⟨bw, 0, none⟩) (k + 1 + 1) (k + 1 + 1)))
          clear W2
          have W2 := W2'
          clear W2'
          clear B5
          have B5 := B5'
          clear B5'
          clear H
          have H := H'
          clear H'
          clear HI
          have HI := HI'
          clear HI'
          clear B8
          have B8 := B8'
          clear B8'
          clear HZ
          have HZ := HZ'
          clear HZ'
          clear B9
          have B9 := B9'
          clear B9'
          clear HW9
          have HW9 := HW9'
          clear HW9'
          clear BB
          have BB := BB'
          clear BB'
          generalize (World.setCell v22 ⟨b9, 0, none⟩ (.slice (some ⟨bw, 0, none⟩) (k + 1 + 1) (k + 1 + 1))) = v23 at *
          refine hK.out _ _ ?_ (fun hHeld => ?_)
          · exact B5.out.cells1.1
          clear hK K
          (try simp only [Act.put])
          (try simp only [List.setIfInBounds_toArray])
          (try simp only [List.set_cons_succ])
          (try simp only [List.set_cons_zero])
          refine wpAnyH_done (by kernel_rfl) ?_ _
          go_wp2
          go_meet
          case rel => exact ⟨b9, bw, p3, rfl, B9.out, HW9.out, B8.out, HZ.out, W2.out, B5.out, H.out, HI.out, BB.out⟩
        case rest =>
          obtain ⟨b9, bw, p3, rfl, B9', HW9', B8', HZ', W2', B5', H', HI', BB'⟩ := hcut
          clear W2 B5 H HI B8 HZ BB
          have B9 := Lib.hid B9'
          clear B9'
          have HW9 := Lib.hid HW9'
          clear HW9'
          have B8 := Lib.hid B8'
          clear B8'
          have HZ := Lib.hid HZ'
          clear HZ'
          have W2 := Lib.hid W2'
          clear W2'
          have B5 := Lib.hid B5'
          clear B5'
          have H := Lib.hid H'
          clear H'
          have HI := Lib.hid HI'
          clear HI'
          have BB := Lib.hid BB'
          clear BB'
          go_upto_region 9 with fail
          have W2' := Lib.hid (W2.out.below ((Below.refl _ _).drew))
          have B5' := Lib.hid (B5.out.below ((Below.refl _ _).drew))
          have H' := Lib.hid (H.out.below ((Below.refl _ _).drew))
          have HI' := Lib.hid (HI.out.below ((Below.refl _ _).drew))
          have B8' := Lib.hid (B8.out.below ((Below.refl _ _).drew))
          have HZ' := Lib.hid (HZ.out.below ((Below.refl _ _).drew))
          have B9' := Lib.hid (B9.out.below ((Below.refl _ _).drew))
          have HW9' := Lib.hid (HW9.out.below ((Below.refl _ _).drew))
          have BB' := Lib.hid (BB.out.trans (((Below.refl _ _).drew).mono BB.out.size))
          clear W2
          have W2 := W2'
          clear W2'
          clear B5
          have B5 := B5'
          clear B5'
          clear H
          have H := H'
          clear H'
          clear HI
          have HI := HI'
          clear HI'
          clear B8
          have B8 := B8'
          clear B8'
          clear HZ
          have HZ := HZ'
          clear HZ'
          clear B9
          have B9 := B9'
          clear B9'
          clear HW9
          have HW9 := HW9'
          clear HW9'
          clear BB
          have BB := BB'
          clear BB'
          refine wp_region_held_drew (S := fun w' => w'.cell? ⟨b5, 0, none⟩ = some (.slice (some ⟨bq, 0, none⟩) (k + 1) (k + 1)) ∧ w'.cell? ⟨b9, 0, none⟩ = some (.slice (some ⟨bw, 0, none⟩) (k + 1 + 1) (k + 1 + 1)) ∧ w'.cell? ⟨b2, 0, none⟩ = some (.int .i64 x) ∧ w'.cell? ⟨b2, 1, none⟩ = some (.int .u32 y) ∧ w'.cell? ⟨b2, 2, none⟩ = some (.int .u32 z)) (by kernel_rfl) ⟨B5.out.cells1.1, B9.out.cells1.1, W2.out.cell 0, W2.out.cell 1, W2.out.cell 2⟩ (fun hHeld => ?_)
          generalize World.drew wc = V24 at *
          refine wpAnyH_take (i := 0) (oi := { dst := some 33, op := Op.load 29 (Operand.tmp 5), type := 29, pos := "law.go:71", after := #[], guard := none }) (v := ?d25_1xv0) rfl (by kernel_rfl) (by kernel_rfl) (by kernel_rfl) (fun _ _ _ h => h) (Or.inl ⟨by rfl, ?d25_1xy0⟩) (by assumption) ?d25_1xr0
          case d25_1xy0 => (intro w hSw; (try dsimp only at hSw); go_simp; try with_reducible rfl)
          (try simp only [Act.put])
          (try simp only [List.setIfInBounds_toArray])
          (try simp only [List.set_cons_succ])
          (try simp only [List.set_cons_zero])
          refine wpAnyH_take (i := 1) (oi := { dst := some 34, op := Op.load 24 (Operand.tmp 2), type := 24, pos := "law.go:71", after := #[], guard := none }) (v := ?d25_2xv1) rfl (by kernel_rfl) (by kernel_rfl) (by kernel_rfl) (fun _ _ _ h => h) (Or.inl ⟨by rfl, ?d25_2xy1⟩) (by assumption) ?d25_2xr1
          case d25_2xy1 => (intro w hSw; (try dsimp only at hSw); go_simp; try with_reducible rfl)
          (try simp only [Act.put])
          (try simp only [List.setIfInBounds_toArray])
          (try simp only [List.set_cons_succ])
          (try simp only [List.set_cons_zero])
          refine wpAnyH_take (i := 2) (oi := { dst := some 35, op := Op.move (Operand.tmp 1), type := 25, pos := "law.go:71", after := #[], guard := none }) (v := ?d25_3xv2) rfl (by kernel_rfl) (by kernel_rfl) (by kernel_rfl) (fun _ _ _ h => h) (Or.inl ⟨by rfl, ?d25_3xy2⟩) (by assumption) ?d25_3xr2
          case d25_3xy2 => (intro w hSw; (try dsimp only at hSw); go_simp; try with_reducible rfl)
          (try simp only [Act.put])
          (try simp only [List.setIfInBounds_toArray])
          (try simp only [List.set_cons_succ])
          (try simp only [List.set_cons_zero])
          refine wpAnyH_take (i := 3) (oi := { dst := some 36, op := Op.move (Operand.tmp 6), type := 3, pos := "law.go:71", after := #[], guard := none }) (v := ?d25_4xv3) rfl (by kernel_rfl) (by kernel_rfl) (by kernel_rfl) (fun _ _ _ h => h) (Or.inl ⟨by rfl, ?d25_4xy3⟩) (by assumption) ?d25_4xr3
          case d25_4xy3 => (intro w hSw; (try dsimp only at hSw); go_simp; try with_reducible rfl)
          (try simp only [Act.put])
          (try simp only [List.setIfInBounds_toArray])
          (try simp only [List.set_cons_succ])
          (try simp only [List.set_cons_zero])
          refine wpAnyH_take (i := 4) (oi := { dst := some 37, op := Op.slice 25 (Operand.tmp 35) none (some (Operand.tmp 36)) none, type := 25, pos := "law.go:71", after := #[{ on := 2, ground := Ground.data }, { on := 3, ground := Ground.data }], guard := none }) (v := ?d25_5xv4) rfl (by kernel_rfl) (by kernel_rfl) (by kernel_rfl) (fun _ _ _ h => h) (Or.inl ⟨by rfl, ?d25_5xy4⟩) (by assumption) ?d25_5xr4
          case d25_5xy4 => (intro w hSw; (try dsimp only at hSw); go_simp; try with_reducible rfl)
          (try simp only [Act.put])
          (try simp only [List.setIfInBounds_toArray])
          (try simp only [List.set_cons_succ])
          (try simp only [List.set_cons_zero])
          refine wpAnyH_ready (rs := [5]) (by kernel_rfl) (by simp) ?_
          refine AllReadyH.cons (o := { dst := some 38, op := Op.call { callee := Callee.value (Operand.func 12), args := #[Operand.tmp 33, Operand.tmp 34, Operand.tmp 37], argTypes := #[29, 24, 25] }, type := 4, pos := "law.go:71", after := #[{ on := 0, ground := Ground.data }, { on := 1, ground := Ground.data }, { on := 4, ground := Ground.data }], guard := none }) rfl (fun K hK => ?_) AllReadyH.nil
          go_simp
          go_at_call 12
          refine (is_true _ _ q x y z (l.take k) _ H.out HQ.out (HI.out.take k (by omega) HN.out) (onesOk_take HO.out k) (by rw [List.length_take]; omega)).mono ?_
          rintro e v25 ⟨rfl, hb⟩
          have W2' := Lib.hid (W2.out.below (hb))
          have B5' := Lib.hid (B5.out.below (hb))
          have H' := Lib.hid (H.out.below (hb))
          have HI' := Lib.hid (HI.out.below (hb))
          have B8' := Lib.hid (B8.out.below (hb))
          have HZ' := Lib.hid (HZ.out.below (hb))
          have B9' := Lib.hid (B9.out.below (hb))
          have HW9' := Lib.hid (HW9.out.below (hb))
          have BB' := Lib.hid (BB.out.trans ((hb).mono BB.out.size))
          clear W2
          have W2 := W2'
          clear W2'
          clear B5
          have B5 := B5'
          clear B5'
          clear H
          have H := H'
          clear H'
          clear HI
          have HI := HI'
          clear HI'
          clear B8
          have B8 := B8'
          clear B8'
          clear HZ
          have HZ := HZ'
          clear HZ'
          clear B9
          have B9 := B9'
          clear B9'
          clear HW9
          have HW9 := HW9'
          clear HW9'
          clear BB
          have BB := BB'
          clear BB'
          clear hb
          go_simp
          refine hK.out _ _ ?_ (fun hHeld => ?_)
          · exact ⟨B5.out.cells1.1, B9.out.cells1.1, W2.out.cell 0, W2.out.cell 1, W2.out.cell 2⟩
          clear hK K
          (try simp only [Act.put])
          (try simp only [List.setIfInBounds_toArray])
          (try simp only [List.set_cons_succ])
          (try simp only [List.set_cons_zero])
          refine wpAnyH_take (i := 6) (oi := { dst := some 39, op := Op.unOp UnOp.not 4 (Operand.tmp 38), type := 4, pos := "law.go:71", after := #[{ on := 5, ground := Ground.data }], guard := none }) (v := ?d26_6xv6) rfl (by kernel_rfl) (by kernel_rfl) (by kernel_rfl) (fun _ _ _ h => h) (Or.inl ⟨by rfl, ?d26_6xy6⟩) (by assumption) ?d26_6xr6
          case d26_6xy6 => (intro w hSw; (try dsimp only at hSw); go_simp; try with_reducible rfl)
          (try simp only [Act.put])
          (try simp only [List.setIfInBounds_toArray])
          (try simp only [List.set_cons_succ])
          (try simp only [List.set_cons_zero])
          refine wpAnyH_take (i := 7) (oi := { dst := some 40, op := Op.move (Operand.tmp 39), type := 4, pos := "law.go:71", after := #[{ on := 6, ground := Ground.data }, { on := 5, ground := Ground.chain }], guard := none }) (v := ?d26_7xv7) rfl (by kernel_rfl) (by kernel_rfl) (by kernel_rfl) (fun _ _ _ h => h) (Or.inl ⟨by rfl, ?d26_7xy7⟩) (by assumption) ?d26_7xr7
          case d26_7xy7 => (intro w hSw; (try dsimp only at hSw); go_simp; try with_reducible rfl)
          (try simp only [Act.put])
          (try simp only [List.setIfInBounds_toArray])
          (try simp only [List.set_cons_succ])
          (try simp only [List.set_cons_zero])
          refine wpAnyH_take (i := 8) (oi := { dst := some 41, op := Op.load 29 (Operand.tmp 9), type := 29, pos := "law.go:71", after := #[{ on := 7, ground := Ground.guard }], guard := some (7, false) }) (v := ?d26_8xv8) rfl (by kernel_rfl) (by kernel_rfl) (by kernel_rfl) (fun _ _ _ h => h) (Or.inl ⟨by rfl, ?d26_8xy8⟩) (by assumption) ?d26_8xr8
          case d26_8xy8 => (intro w hSw; (try dsimp only at hSw); go_simp; try with_reducible rfl)
          (try simp only [Act.put])
          (try simp only [List.setIfInBounds_toArray])
          (try simp only [List.set_cons_succ])
          (try simp only [List.set_cons_zero])
          refine wpAnyH_take (i := 10) (oi := { dst := some 43, op := Op.move (Operand.tmp 6), type := 3, pos := "law.go:71", after := #[{ on := 7, ground := Ground.guard }], guard := some (7, false) }) (v := ?d26_9xv10) rfl (by kernel_rfl) (by kernel_rfl) (by kernel_rfl) (fun _ _ _ h => h) (Or.inl ⟨by rfl, ?d26_9xy10⟩) (by assumption) ?d26_9xr10
          case d26_9xy10 => (intro w hSw; (try dsimp only at hSw); go_simp; try with_reducible rfl)
          (try simp only [Act.put])
          (try simp only [List.setIfInBounds_toArray])
          (try simp only [List.set_cons_succ])
          (try simp only [List.set_cons_zero])
          refine wpAnyH_take (i := 11) (oi := { dst := some 44, op := Op.binOp BinOp.add 3 (Operand.tmp 43) (Operand.const (Value.int IntKind.i64 2)) 3, type := 3, pos := "law.go:71", after := #[{ on := 10, ground := Ground.data }, { on := 7, ground := Ground.guard }], guard := some (7, false) }) (v := ?d26_10xv11) rfl (by kernel_rfl) (by kernel_rfl) (by kernel_rfl) (fun _ _ _ h => h) (Or.inl ⟨by rfl, ?d26_10xy11⟩) (by assumption) ?d26_10xr11
          case d26_10xy11 => (intro w hSw; (try dsimp only at hSw); go_simp; try with_reducible rfl)
          (try simp only [Act.put])
          (try simp only [List.setIfInBounds_toArray])
          (try simp only [List.set_cons_succ])
          (try simp only [List.set_cons_zero])
          refine wpAnyH_ready (rs := [9]) (by kernel_rfl) (by simp) ?_
          refine AllReadyH.cons (o := { dst := some 42, op := Op.call { callee := Callee.value (Operand.func 13), args := #[Operand.tmp 41], argTypes := #[29] }, type := 3, pos := "law.go:71", after := #[{ on := 8, ground := Ground.data }, { on := 7, ground := Ground.chain }, { on := 7, ground := Ground.guard }], guard := some (7, false) }) rfl (fun K hK => ?_) AllReadyH.nil
          go_simp
          go_at_call 13
          refine (len_c _ (k + 1 + 1) (k + 1 + 1) _).mono ?_
          rintro e v26 ⟨rfl, hb⟩
          have W2' := Lib.hid (W2.out.below (hb))
          have B5' := Lib.hid (B5.out.below (hb))
          have H' := Lib.hid (H.out.below (hb))
          have HI' := Lib.hid (HI.out.below (hb))
          have B8' := Lib.hid (B8.out.below (hb))
          have HZ' := Lib.hid (HZ.out.below (hb))
          have B9' := Lib.hid (B9.out.below (hb))
          have HW9' := Lib.hid (HW9.out.below (hb))
          have BB' := Lib.hid (BB.out.trans ((hb).mono BB.out.size))
          clear W2
          have W2 := W2'
          clear W2'
          clear B5
          have B5 := B5'
          clear B5'
          clear H
          have H := H'
          clear H'
          clear HI
          have HI := HI'
          clear HI'
          clear B8
          have B8 := B8'
          clear B8'
          clear HZ
          have HZ := HZ'
          clear HZ'
          clear B9
          have B9 := B9'
          clear B9'
          clear HW9
          have HW9 := HW9'
          clear HW9'
          clear BB
          have BB := BB'
          clear BB'
          clear hb
          rw [show ((k + 1 + 1 : Nat) : Int) = (k : Int) + 2 by omega]
          go_simp
          refine hK.out _ _ ?_ (fun hHeld => ?_)
          · exact ⟨B5.out.cells1.1, B9.out.cells1.1, W2.out.cell 0, W2.out.cell 1, W2.out.cell 2⟩
          clear hK K
          (try simp only [Act.put])
          (try simp only [List.setIfInBounds_toArray])
          (try simp only [List.set_cons_succ])
          (try simp only [List.set_cons_zero])
          refine wpAnyH_take (i := 12) (oi := { dst := some 45, op := Op.binOp BinOp.neq 3 (Operand.tmp 42) (Operand.tmp 44) 3, type := 4, pos := "law.go:71", after := #[{ on := 9, ground := Ground.data }, { on := 11, ground := Ground.data }, { on := 7, ground := Ground.guard }], guard := some (7, false) }) (v := ?d27_11xv12) rfl (by kernel_rfl) (by kernel_rfl) (by kernel_rfl) (fun _ _ _ h => h) (Or.inl ⟨by rfl, ?d27_11xy12⟩) (by assumption) ?d27_11xr12
          case d27_11xy12 => (intro w hSw; (try dsimp only at hSw); go_simp; try with_reducible rfl)
          (try simp only [Act.put])
          (try simp only [List.setIfInBounds_toArray])
          (try simp only [List.set_cons_succ])
          (try simp only [List.set_cons_zero])
          refine wpAnyH_take (i := 13) (oi := { dst := some 46, op := Op.pick (Operand.tmp 40) (Operand.const (Value.bool true)) (Operand.tmp 45), type := 4, pos := "law.go:71", after := #[{ on := 7, ground := Ground.data }, { on := 12, ground := Ground.data }], guard := none }) (v := ?d27_12xv13) rfl (by kernel_rfl) (by kernel_rfl) (by kernel_rfl) (fun _ _ _ h => h) (Or.inl ⟨by rfl, ?d27_12xy13⟩) (by assumption) ?d27_12xr13
          case d27_12xy13 => (intro w hSw; (try dsimp only at hSw); go_simp; try with_reducible rfl)
          (try simp only [Act.put])
          (try simp only [List.setIfInBounds_toArray])
          (try simp only [List.set_cons_succ])
          (try simp only [List.set_cons_zero])
          refine wpAnyH_take (i := 14) (oi := { dst := some 47, op := Op.move (Operand.tmp 46), type := 4, pos := "law.go:71", after := #[{ on := 13, ground := Ground.data }, { on := 9, ground := Ground.chain }], guard := none }) (v := ?d27_13xv14) rfl (by kernel_rfl) (by kernel_rfl) (by kernel_rfl) (fun _ _ _ h => h) (Or.inl ⟨by rfl, ?d27_13xy14⟩) (by assumption) ?d27_13xr14
          case d27_13xy14 => (intro w hSw; (try dsimp only at hSw); go_simp; try with_reducible rfl)
          (try simp only [Act.put])
          (try simp only [List.setIfInBounds_toArray])
          (try simp only [List.set_cons_succ])
          (try simp only [List.set_cons_zero])
          refine wpAnyH_take (i := 15) (oi := { dst := some 48, op := Op.load 29 (Operand.tmp 9), type := 29, pos := "law.go:71", after := #[{ on := 14, ground := Ground.guard }], guard := some (14, false) }) (v := ?d27_14xv15) rfl (by kernel_rfl) (by kernel_rfl) (by kernel_rfl) (fun _ _ _ h => h) (Or.inl ⟨by rfl, ?d27_14xy15⟩) (by assumption) ?d27_14xr15
          case d27_14xy15 => (intro w hSw; (try dsimp only at hSw); go_simp; try with_reducible rfl)
          (try simp only [Act.put])
          (try simp only [List.setIfInBounds_toArray])
          (try simp only [List.set_cons_succ])
          (try simp only [List.set_cons_zero])
          refine wpAnyH_ready (rs := [16]) (by kernel_rfl) (by simp) ?_
          refine AllReadyH.cons (o := { dst := some 49, op := Op.call { callee := Callee.value (Operand.func 14), args := #[Operand.tmp 48], argTypes := #[29] }, type := 38, pos := "law.go:71", after := #[{ on := 15, ground := Ground.data }, { on := 14, ground := Ground.chain }, { on := 14, ground := Ground.guard }], guard := some (14, false) }) rfl (fun K hK => ?_) AllReadyH.nil
          go_simp
          go_at_call 14
          refine (last_some _ q (one9.msg, p3) _ HW9.out (by omega)).mono ?_
          rintro e v27 ⟨rfl, hb⟩
          have W2' := Lib.hid (W2.out.below (hb))
          have B5' := Lib.hid (B5.out.below (hb))
          have H' := Lib.hid (H.out.below (hb))
          have HI' := Lib.hid (HI.out.below (hb))
          have B8' := Lib.hid (B8.out.below (hb))
          have HZ' := Lib.hid (HZ.out.below (hb))
          have B9' := Lib.hid (B9.out.below (hb))
          have HW9' := Lib.hid (HW9.out.below (hb))
          have BB' := Lib.hid (BB.out.trans ((hb).mono BB.out.size))
          clear W2
          have W2 := W2'
          clear W2'
          clear B5
          have B5 := B5'
          clear B5'
          clear H
          have H := H'
          clear H'
          clear HI
          have HI := HI'
          clear HI'
          clear B8
          have B8 := B8'
          clear B8'
          clear HZ
          have HZ := HZ'
          clear HZ'
          clear B9
          have B9 := B9'
          clear B9'
          clear HW9
          have HW9 := HW9'
          clear HW9'
          clear BB
          have BB := BB'
          clear BB'
          clear hb
          simp only [msgV, One.msg, one9]
          go_simp
          refine hK.out _ _ ?_ (fun hHeld => ?_)
          · exact ⟨B5.out.cells1.1, B9.out.cells1.1, W2.out.cell 0, W2.out.cell 1, W2.out.cell 2⟩
          clear hK K
          (try simp only [Act.put])
          (try simp only [List.setIfInBounds_toArray])
          (try simp only [List.set_cons_succ])
          (try simp only [List.set_cons_zero])
          refine wpAnyH_take (i := 17) (oi := { dst := some 50, op := Op.field 38 (Operand.tmp 49) 1, type := 3, pos := "law.go:71", after := #[{ on := 16, ground := Ground.data }, { on := 14, ground := Ground.guard }], guard := some (14, false) }) (v := ?d28_15xv17) rfl (by kernel_rfl) (by kernel_rfl) (by kernel_rfl) (fun _ _ _ h => h) (Or.inl ⟨by rfl, ?d28_15xy17⟩) (by assumption) ?d28_15xr17
          case d28_15xy17 => (intro w hSw; (try dsimp only at hSw); go_simp; try with_reducible rfl)
          (try simp only [Act.put])
          (try simp only [List.setIfInBounds_toArray])
          (try simp only [List.set_cons_succ])
          (try simp only [List.set_cons_zero])
          refine wpAnyH_take (i := 18) (oi := { dst := some 51, op := Op.binOp BinOp.neq 3 (Operand.tmp 50) (Operand.const (Value.int IntKind.i64 (-9))) 3, type := 4, pos := "law.go:71", after := #[{ on := 17, ground := Ground.data }, { on := 14, ground := Ground.guard }], guard := some (14, false) }) (v := ?d28_16xv18) rfl (by kernel_rfl) (by kernel_rfl) (by kernel_rfl) (fun _ _ _ h => h) (Or.inl ⟨by rfl, ?d28_16xy18⟩) (by assumption) ?d28_16xr18
          case d28_16xy18 => (intro w hSw; (try dsimp only at hSw); go_simp; try with_reducible rfl)
          (try simp only [Act.put])
          (try simp only [List.setIfInBounds_toArray])
          (try simp only [List.set_cons_succ])
          (try simp only [List.set_cons_zero])
          refine wpAnyH_take (i := 19) (oi := { dst := some 52, op := Op.pick (Operand.tmp 47) (Operand.const (Value.bool true)) (Operand.tmp 51), type := 4, pos := "law.go:71", after := #[{ on := 14, ground := Ground.data }, { on := 18, ground := Ground.data }], guard := none }) (v := ?d28_17xv19) rfl (by kernel_rfl) (by kernel_rfl) (by kernel_rfl) (fun _ _ _ h => h) (Or.inl ⟨by rfl, ?d28_17xy19⟩) (by assumption) ?d28_17xr19
          case d28_17xy19 => (intro w hSw; (try dsimp only at hSw); go_simp; try with_reducible rfl)
          (try simp only [Act.put])
          (try simp only [List.setIfInBounds_toArray])
          (try simp only [List.set_cons_succ])
          (try simp only [List.set_cons_zero])
          refine wpAnyH_done (by kernel_rfl) ?_ _
          obtain ⟨m8, -⟩ := B8.out.cells1
          obtain ⟨m5, g5⟩ := B5.out.cells1
          go_wp2
          go_roundw
          case rel => exact ⟨k + 1, by omega, by simp, W2.out.only (by omega) ((Only.refl b5 v27).set 0 (.slice (some ⟨bz, 0, none⟩) (k + 1 + 1) (k + 1 + 1))), ⟨bz, qz, hz5, HZM.out, hzl, B5.out.set 0 (.slice (some ⟨bz, 0, none⟩) (k + 1 + 1) (k + 1 + 1)), HZ.out.only B5.out (fun a n c e => by cases e; simp only; omega) ((Only.refl b5 v27).set 0 (.slice (some ⟨bz, 0, none⟩) (k + 1 + 1) (k + 1 + 1)))⟩, HI.out.only (by omega) ((Only.refl b5 v27).set 0 (.slice (some ⟨bz, 0, none⟩) (k + 1 + 1) (k + 1 + 1))), BB.out.put b5 (by omega) 0 (.slice (some ⟨bz, 0, none⟩) (k + 1 + 1) (k + 1 + 1))⟩
          case measure => (simp [intOf]; omega)
    · skip
      have he : k = n := by omega
      subst he
      have hqm := HQ.out
      rw [List.take_of_length_le (by rw [HN.out]; exact Nat.le_refl _)] at hqm
      obtain ⟨q0, ⟨⟨xa, xb, xc, xd, xm⟩, xp⟩, rfl⟩ : ∃ q0 m, q = q0 ++ [m] := by
        rcases List.eq_nil_or_concat q with rfl | ⟨q0, m, e⟩
        · simp at hql
        · exact ⟨q0, m, by rw [e, List.concat_eq_append]⟩
      have hq0 : q0.length = k := by simpa using hql
      have hxn : (q0 ++ [((⟨xa, xb, xc, xd, xm⟩ : Msg), xp)])[k]? = some (⟨xa, xb, xc, xd, xm⟩, xp) := by rw [List.getElem?_append_right (by omega)]; simp [hq0]
      have HX := Lib.hid hxn
      have HQ2 := Lib.hid hqm
      have hw : IntKind.i64.wrap (k : Int) = k := IntWalk.i64_in _ (by omega)
      clear hxn hqm HQ
      go_upto_region 13 with fail
      go_cut [10, 11] (fun s10 s11 wx => ∃ b10, s10 = .pointer (some ⟨b10, 0, none⟩) ∧ s11 = .bool true ∧ Box wx b10 #[.int .i64 xa, .int .u32 xb, .int .u32 xc, .int .i64 xd, .map xp] 38 ∧ Box wx b2 #[.int .i64 x, .int .u32 y, .int .u32 z] 24 ∧ Box wx b5 #[.slice (some ⟨bq, 0, none⟩) (k + 1) (k + 1)] 29 ∧ HW wx (.slice (some ⟨bq, 0, none⟩) (k + 1) (k + 1)) (q0 ++ [((⟨xa, xb, xc, xd, xm⟩ : Msg), xp)]) ∧ IsOnes wx (.slice a k cap) l ∧ Below w.heap.size w wx)
      case first =>
        have W2' := Lib.hid (W2.out.below ((Below.refl _ _).drew))
        have B5' := Lib.hid (B5.out.below ((Below.refl _ _).drew))
        have H' := Lib.hid (H.out.below ((Below.refl _ _).drew))
        have HI' := Lib.hid (HI.out.below ((Below.refl _ _).drew))
        have BB' := Lib.hid (BB.out.trans (((Below.refl _ _).drew).mono BB.out.size))
        clear W2
        have W2 := W2'
        clear W2'
        clear B5
        have B5 := B5'
        clear B5'
        clear H
        have H := H'
        clear H'
        clear HI
        have HI := HI'
        clear HI'
        clear BB
        have BB := BB'
        clear BB'
        refine wp_region_held_drew (S := fun w' => w'.cell? ⟨b5, 0, none⟩ = some (.slice (some ⟨bq, 0, none⟩) (k + 1) (k + 1))) (by kernel_rfl) B5.out.cells1.1 (fun hHeld => ?_)
        generalize World.drew wr = V28 at *
        refine wpAnyH_take (i := 0) (oi := { dst := some 56, op := Op.load 29 (Operand.tmp 5), type := 29, pos := "law.go:76", after := #[], guard := none }) (v := ?d29_1xv0) rfl (by kernel_rfl) (by kernel_rfl) (by kernel_rfl) (fun _ _ _ h => h) (Or.inl ⟨by rfl, ?d29_1xy0⟩) (by assumption) ?d29_1xr0
        case d29_1xy0 => (intro w hSw; (try dsimp only at hSw); go_simp; try with_reducible rfl)
        (try simp only [Act.put])
        (try simp only [List.setIfInBounds_toArray])
        (try simp only [List.set_cons_succ])
        (try simp only [List.set_cons_zero])
        refine wpAnyH_take (i := 1) (oi := { dst := some 57, op := Op.load 29 (Operand.tmp 5), type := 29, pos := "law.go:76", after := #[], guard := none }) (v := ?d29_2xv1) rfl (by kernel_rfl) (by kernel_rfl) (by kernel_rfl) (fun _ _ _ h => h) (Or.inl ⟨by rfl, ?d29_2xy1⟩) (by assumption) ?d29_2xr1
        case d29_2xy1 => (intro w hSw; (try dsimp only at hSw); go_simp; try with_reducible rfl)
        (try simp only [Act.put])
        (try simp only [List.setIfInBounds_toArray])
        (try simp only [List.set_cons_succ])
        (try simp only [List.set_cons_zero])
        refine wpAnyH_ready (rs := [2, 8]) (by kernel_rfl) (by simp) ?_
        refine AllReadyH.cons (o := { dst := some 58, op := Op.call { callee := Callee.value (Operand.func 13), args := #[Operand.tmp 57], argTypes := #[29] }, type := 3, pos := "law.go:76", after := #[{ on := 1, ground := Ground.data }], guard := none }) rfl (fun K hK => ?_) ?_
        · skip
          go_simp
          go_at_call 13
          refine (len_c _ (k + 1) (k + 1) _).mono ?_
          rintro e v29 ⟨rfl, hb⟩
          have W2' := Lib.hid (W2.out.below (hb))
          have B5' := Lib.hid (B5.out.below (hb))
          have H' := Lib.hid (H.out.below (hb))
          have HI' := Lib.hid (HI.out.below (hb))
          have BB' := Lib.hid (BB.out.trans ((hb).mono BB.out.size))
          clear W2
          have W2 := W2'
          clear W2'
          clear B5
          have B5 := B5'
          clear B5'
          clear H
          have H := H'
          clear H'
          clear HI
          have HI := HI'
          clear HI'
          clear BB
          have BB := BB'
          clear BB'
          clear hb
          go_simp
          refine hK.out _ _ ?_ (fun hHeld => ?_)
          · exact B5.out.cells1.1
          clear hK K
          (try simp only [Act.put])
          (try simp only [List.setIfInBounds_toArray])
          (try simp only [List.set_cons_succ])
          (try simp only [List.set_cons_zero])
          refine wpAnyH_take (i := 3) (oi := { dst := some 59, op := Op.binOp BinOp.sub 3 (Operand.tmp 58) (Operand.const (Value.int IntKind.i64 1)) 3, type := 3, pos := "law.go:76", after := #[{ on := 2, ground := Ground.data }], guard := none }) (v := ?d30_3xv3) rfl (by kernel_rfl) (by kernel_rfl) (by kernel_rfl) (fun _ _ _ h => h) (Or.inl ⟨by rfl, ?d30_3xy3⟩) (by assumption) ?d30_3xr3
          case d30_3xy3 => (intro w hSw; (try dsimp only at hSw); go_simp; try with_reducible rfl)
          (try simp only [Act.put])
          (try simp only [List.setIfInBounds_toArray])
          (try simp only [List.set_cons_succ])
          (try simp only [List.set_cons_zero])
          refine wpAnyH_ready (rs := [4, 8]) (by kernel_rfl) (by simp) ?_
          refine AllReadyH.cons (o := { dst := some 60, op := Op.call { callee := Callee.value (Operand.func 15), args := #[Operand.tmp 56, Operand.tmp 59], argTypes := #[29, 3] }, type := 42, pos := "law.go:76", after := #[{ on := 0, ground := Ground.data }, { on := 3, ground := Ground.data }, { on := 2, ground := Ground.chain }], guard := none }) rfl (fun K hK => ?_) ?_
          · skip
            go_simp
            go_at_call 15
            (try rw [hw])
            refine (hat_in _ (q0 ++ [((⟨xa, xb, xc, xd, xm⟩ : Msg), xp)]) k _ _ H.out HX.out (by omega)).mono ?_
            rintro e v30 ⟨rfl, hb⟩
            have W2' := Lib.hid (W2.out.below (hb))
            have B5' := Lib.hid (B5.out.below (hb))
            have H' := Lib.hid (H.out.below (hb))
            have HI' := Lib.hid (HI.out.below (hb))
            have BB' := Lib.hid (BB.out.trans ((hb).mono BB.out.size))
            clear W2
            have W2 := W2'
            clear W2'
            clear B5
            have B5 := B5'
            clear B5'
            clear H
            have H := H'
            clear H'
            clear HI
            have HI := HI'
            clear HI'
            clear BB
            have BB := BB'
            clear BB'
            clear hb
            simp only [msgV]
            go_simp
            refine hK.out _ _ ?_ (fun hHeld => ?_)
            · exact B5.out.cells1.1
            clear hK K
            (try simp only [Act.put])
            (try simp only [List.setIfInBounds_toArray])
            (try simp only [List.set_cons_succ])
            (try simp only [List.set_cons_zero])
            refine wpAnyH_take (i := 5) (oi := { dst := some 55, op := Op.move (Operand.tmp 60), type := 42, pos := "law.go:76", after := #[{ on := 4, ground := Ground.data }], guard := none }) (v := ?d31_4xv5) rfl (by kernel_rfl) (by kernel_rfl) (by kernel_rfl) (fun _ _ _ h => h) (Or.inl ⟨by rfl, ?d31_4xy5⟩) (by assumption) ?d31_4xr5
            case d31_4xy5 => (intro w hSw; (try dsimp only at hSw); go_simp; try with_reducible rfl)
            (try simp only [Act.put])
            (try simp only [List.setIfInBounds_toArray])
            (try simp only [List.set_cons_succ])
            (try simp only [List.set_cons_zero])
            refine wpAnyH_take (i := 6) (oi := { dst := some 61, op := Op.extract (Operand.tmp 55) 0, type := 38, pos := "law.go:76", after := #[{ on := 5, ground := Ground.data }], guard := none }) (v := ?d31_5xv6) rfl (by kernel_rfl) (by kernel_rfl) (by kernel_rfl) (fun _ _ _ h => h) (Or.inl ⟨by rfl, ?d31_5xy6⟩) (by assumption) ?d31_5xr6
            case d31_5xy6 => (intro w hSw; (try dsimp only at hSw); go_simp; try with_reducible rfl)
            (try simp only [Act.put])
            (try simp only [List.setIfInBounds_toArray])
            (try simp only [List.set_cons_succ])
            (try simp only [List.set_cons_zero])
            refine wpAnyH_take (i := 7) (oi := { dst := some 62, op := Op.extract (Operand.tmp 55) 1, type := 4, pos := "law.go:76", after := #[{ on := 5, ground := Ground.data }, { on := 9, ground := Ground.gcOnly Departure.lateStores }], guard := none }) (v := ?d31_6xv7) rfl (by kernel_rfl) (by kernel_rfl) (by kernel_rfl) (fun _ _ _ h => h) (Or.inl ⟨by rfl, ?d31_6xy7⟩) (by assumption) ?d31_6xr7
            case d31_6xy7 => (intro w hSw; (try dsimp only at hSw); go_simp; try with_reducible rfl)
            (try simp only [Act.put])
            (try simp only [List.setIfInBounds_toArray])
            (try simp only [List.set_cons_succ])
            (try simp only [List.set_cons_zero])
            refine wpAnyH_ready (rs := [8]) (by kernel_rfl) (by simp) ?_
            refine AllReadyH.cons (o := { dst := some 10, op := Op.alloc 38, type := 0, pos := "law.go:76", after := #[], guard := none }) rfl (fun K hK => ?_) AllReadyH.nil
            go_simp
            have hlt_b10 := BB.out.size
            have hlt_b10_W2 := W2.out.lt
            have hlt_b10_B5 := B5.out.lt
            have hlt_b10_H := H.out.blt
            have W2' := Lib.hid (W2.out.below (below_new v30 (.cells #[.int .i64 0, .int .u32 0, .int .u32 0, .int .i64 0, .map none] 38)))
            have B5' := Lib.hid (B5.out.below (below_new v30 (.cells #[.int .i64 0, .int .u32 0, .int .u32 0, .int .i64 0, .map none] 38)))
            have H' := Lib.hid (H.out.below (below_new v30 (.cells #[.int .i64 0, .int .u32 0, .int .u32 0, .int .i64 0, .map none] 38)))
            have HI' := Lib.hid (HI.out.below (below_new v30 (.cells #[.int .i64 0, .int .u32 0, .int .u32 0, .int .i64 0, .map none] 38)))
            have BB' := Lib.hid (BB.out.trans ((below_new v30 (.cells #[.int .i64 0, .int .u32 0, .int .u32 0, .int .i64 0, .map none] 38)).mono BB.out.size))
            clear W2
            have W2 := W2'
            clear W2'
            clear B5
            have B5 := B5'
            clear B5'
            clear H
            have H := H'
            clear H'
            clear HI
            have HI := HI'
            clear HI'
            clear BB
            have BB := BB'
            clear BB'
            have N := Lib.hid (Box.new v30 #[.int .i64 0, .int .u32 0, .int .u32 0, .int .i64 0, .map none] 38 rfl)
            generalize World.alloc v30 (.cells #[.int .i64 0, .int .u32 0, .int .u32 0, .int .i64 0, .map none] 38) = v31 at *
            generalize World.heap v30 = hp_b10 at *
            generalize hp_b10.size = b10 at *
            refine hK.out _ _ ?_ (fun hHeld => ?_)
            · exact B5.out.cells1.1
            clear hK K
            (try simp only [Act.put])
            (try simp only [List.setIfInBounds_toArray])
            (try simp only [List.set_cons_succ])
            (try simp only [List.set_cons_zero])
            refine wpAnyH_ready (rs := [9]) (by kernel_rfl) (by simp) ?_
            refine AllReadyH.cons (o := { dst := none, op := Op.store 38 (Operand.tmp 10) (Operand.tmp 61), type := 0, pos := "law.go:76", after := #[{ on := 8, ground := Ground.data }, { on := 6, ground := Ground.data }, { on := 4, ground := Ground.chain }, { on := 0, ground := Ground.phase }, { on := 1, ground := Ground.phase }, { on := 2, ground := Ground.phase }, { on := 3, ground := Ground.phase }, { on := 4, ground := Ground.phase }, { on := 5, ground := Ground.phase }, { on := 6, ground := Ground.phase }, { on := 7, ground := Ground.textOnly Departure.lateStores }, { on := 8, ground := Ground.phase }], guard := none }) rfl (fun K hK => ?_) AllReadyH.nil
            obtain ⟨⟨m0, m1, m2, m3, m4⟩, g0, g1, g2, g3, g4⟩ := N.out.cells5
            go_simp
            clear m0 g0 m1 g1 m2 g2 m3 g3 m4 g4
            have W2' := Lib.hid (W2.out.only (by omega) ((((((Only.refl b10 v31).set 0 (.int .i64 xa)).set 1 (.int .u32 xb)).set 2 (.int .u32 xc)).set 3 (.int .i64 xd)).set 4 (.map xp)))
            have B5' := Lib.hid (B5.out.only (by omega) ((((((Only.refl b10 v31).set 0 (.int .i64 xa)).set 1 (.int .u32 xb)).set 2 (.int .u32 xc)).set 3 (.int .i64 xd)).set 4 (.map xp)))
            have H' := Lib.hid (H.out.only N.out (fun a n c e => by cases e; simp only; omega) ((((((Only.refl b10 v31).set 0 (.int .i64 xa)).set 1 (.int .u32 xb)).set 2 (.int .u32 xc)).set 3 (.int .i64 xd)).set 4 (.map xp)))
            have HI' := Lib.hid (IsOnes.onlyA HI.out (fun b off e h => by have := HAB.out b off e h; omega) ((((((Only.refl b10 v31).set 0 (.int .i64 xa)).set 1 (.int .u32 xb)).set 2 (.int .u32 xc)).set 3 (.int .i64 xd)).set 4 (.map xp)))
            have N' := Lib.hid ((((((N.out).set 0 (.int .i64 xa)).set 1 (.int .u32 xb)).set 2 (.int .u32 xc)).set 3 (.int .i64 xd)).set 4 (.map xp))
            have BB' := Lib.hid ((((((BB.out).put b10 (by omega) 0 (.int .i64 xa)).put b10 (by omega) 1 (.int .u32 xb)).put b10 (by omega) 2 (.int .u32 xc)).put b10 (by omega) 3 (.int .i64 xd)).put b10 (by omega) 4 (.map xp))
            clear W2
            have W2 := W2'
            clear W2'
            clear B5
            have B5 := B5'
            clear B5'
            clear H
            have H := H'
            clear H'
            clear HI
            have HI := HI'
            clear HI'
            clear N
            have N := N'
            clear N'
            clear BB
            have BB := BB'
            clear BB'
            generalize (World.setCell (World.setCell (World.setCell (World.setCell (World.setCell v31 ⟨b10, 0, none⟩ (.int .i64 xa)) ⟨b10, 1, none⟩ (.int .u32 xb)) ⟨b10, 2, none⟩ (.int .u32 xc)) ⟨b10, 3, none⟩ (.int .i64 xd)) ⟨b10, 4, none⟩ (.map xp)) = v32 at *
            refine hK.out _ _ ?_ (fun hHeld => ?_)
            · exact B5.out.cells1.1
            clear hK K
            (try simp only [Act.put])
            (try simp only [List.setIfInBounds_toArray])
            (try simp only [List.set_cons_succ])
            (try simp only [List.set_cons_zero])
            refine wpAnyH_ready (rs := [10]) (by kernel_rfl) (by simp) ?_
            refine AllReadyH.cons (o := { dst := some 11, op := Op.assign (Operand.tmp 62), type := 4, pos := "law.go:76", after := #[{ on := 7, ground := Ground.data }, { on := 9, ground := Ground.chain }, { on := 0, ground := Ground.phase }, { on := 1, ground := Ground.phase }, { on := 2, ground := Ground.phase }, { on := 3, ground := Ground.phase }, { on := 4, ground := Ground.phase }, { on := 5, ground := Ground.phase }, { on := 6, ground := Ground.phase }, { on := 7, ground := Ground.phase }, { on := 8, ground := Ground.phase }, { on := 9, ground := Ground.phase }], guard := none }) rfl (fun K hK => ?_) AllReadyH.nil
            go_simp
            refine hK.out _ _ ?_ (fun hHeld => ?_)
            · exact B5.out.cells1.1
            clear hK K
            (try simp only [Act.put])
            (try simp only [List.setIfInBounds_toArray])
            (try simp only [List.set_cons_succ])
            (try simp only [List.set_cons_zero])
            refine wpAnyH_done (by kernel_rfl) ?_ _
            go_wp2
            go_meet
            case rel => exact ⟨b10, rfl, rfl, N.out, W2.out, B5.out, H.out, HI.out, BB.out⟩
          refine AllReadyH.cons (o := { dst := some 10, op := Op.alloc 38, type := 0, pos := "law.go:76", after := #[], guard := none }) rfl (fun K hK => ?_) AllReadyH.nil
          go_simp
          have hlt_b10 := BB.out.size
          have hlt_b10_W2 := W2.out.lt
          have hlt_b10_B5 := B5.out.lt
          have hlt_b10_H := H.out.blt
          have W2' := Lib.hid (W2.out.below (below_new v29 (.cells #[.int .i64 0, .int .u32 0, .int .u32 0, .int .i64 0, .map none] 38)))
          have B5' := Lib.hid (B5.out.below (below_new v29 (.cells #[.int .i64 0, .int .u32 0, .int .u32 0, .int .i64 0, .map none] 38)))
          have H' := Lib.hid (H.out.below (below_new v29 (.cells #[.int .i64 0, .int .u32 0, .int .u32 0, .int .i64 0, .map none] 38)))
          have HI' := Lib.hid (HI.out.below (below_new v29 (.cells #[.int .i64 0, .int .u32 0, .int .u32 0, .int .i64 0, .map none] 38)))
          have BB' := Lib.hid (BB.out.trans ((below_new v29 (.cells #[.int .i64 0, .int .u32 0, .int .u32 0, .int .i64 0, .map none] 38)).mono BB.out.size))
          clear W2
          have W2 := W2'
          clear W2'
          clear B5
          have B5 := B5'
          clear B5'
          clear H
          have H := H'
          clear H'
          clear HI
          have HI := HI'
          clear HI'
          clear BB
          have BB := BB'
          clear BB'
          have N := Lib.hid (Box.new v29 #[.int .i64 0, .int .u32 0, .int .u32 0, .int .i64 0, .map none] 38 rfl)
          generalize World.alloc v29 (.cells #[.int .i64 0, .int .u32 0, .int .u32 0, .int .i64 0, .map none] 38) = v33 at *
          generalize World.heap v29 = hp_b10 at *
          generalize hp_b10.size = b10 at *
          refine hK.out _ _ ?_ (fun hHeld => ?_)
          · exact B5.out.cells1.1
          clear hK K
          (try simp only [Act.put])
          (try simp only [List.setIfInBounds_toArray])
          (try simp only [List.set_cons_succ])
          (try simp only [List.set_cons_zero])
          refine wpAnyH_ready (rs := [4]) (by kernel_rfl) (by simp) ?_
          refine AllReadyH.cons (o := { dst := some 60, op := Op.call { callee := Callee.value (Operand.func 15), args := #[Operand.tmp 56, Operand.tmp 59], argTypes := #[29, 3] }, type := 42, pos := "law.go:76", after := #[{ on := 0, ground := Ground.data }, { on := 3, ground := Ground.data }, { on := 2, ground := Ground.chain }], guard := none }) rfl (fun K hK => ?_) AllReadyH.nil
          go_simp
          go_at_call 15
          (try rw [hw])
          refine (hat_in _ (q0 ++ [((⟨xa, xb, xc, xd, xm⟩ : Msg), xp)]) k _ _ H.out HX.out (by omega)).mono ?_
          rintro e v34 ⟨rfl, hb⟩
          have W2' := Lib.hid (W2.out.below (hb))
          have B5' := Lib.hid (B5.out.below (hb))
          have H' := Lib.hid (H.out.below (hb))
          have HI' := Lib.hid (HI.out.below (hb))
          have N' := Lib.hid (N.out.below (hb))
          have BB' := Lib.hid (BB.out.trans ((hb).mono BB.out.size))
          clear W2
          have W2 := W2'
          clear W2'
          clear B5
          have B5 := B5'
          clear B5'
          clear H
          have H := H'
          clear H'
          clear HI
          have HI := HI'
          clear HI'
          clear N
          have N := N'
          clear N'
          clear BB
          have BB := BB'
          clear BB'
          clear hb
          simp only [msgV]
          go_simp
          refine hK.out _ _ ?_ (fun hHeld => ?_)
          · exact B5.out.cells1.1
          clear hK K
          (try simp only [Act.put])
          (try simp only [List.setIfInBounds_toArray])
          (try simp only [List.set_cons_succ])
          (try simp only [List.set_cons_zero])
          refine wpAnyH_take (i := 5) (oi := { dst := some 55, op := Op.move (Operand.tmp 60), type := 42, pos := "law.go:76", after := #[{ on := 4, ground := Ground.data }], guard := none }) (v := ?d35_7xv5) rfl (by kernel_rfl) (by kernel_rfl) (by kernel_rfl) (fun _ _ _ h => h) (Or.inl ⟨by rfl, ?d35_7xy5⟩) (by assumption) ?d35_7xr5
          case d35_7xy5 => (intro w hSw; (try dsimp only at hSw); go_simp; try with_reducible rfl)
          (try simp only [Act.put])
          (try simp only [List.setIfInBounds_toArray])
          (try simp only [List.set_cons_succ])
          (try simp only [List.set_cons_zero])
          refine wpAnyH_take (i := 6) (oi := { dst := some 61, op := Op.extract (Operand.tmp 55) 0, type := 38, pos := "law.go:76", after := #[{ on := 5, ground := Ground.data }], guard := none }) (v := ?d35_8xv6) rfl (by kernel_rfl) (by kernel_rfl) (by kernel_rfl) (fun _ _ _ h => h) (Or.inl ⟨by rfl, ?d35_8xy6⟩) (by assumption) ?d35_8xr6
          case d35_8xy6 => (intro w hSw; (try dsimp only at hSw); go_simp; try with_reducible rfl)
          (try simp only [Act.put])
          (try simp only [List.setIfInBounds_toArray])
          (try simp only [List.set_cons_succ])
          (try simp only [List.set_cons_zero])
          refine wpAnyH_take (i := 7) (oi := { dst := some 62, op := Op.extract (Operand.tmp 55) 1, type := 4, pos := "law.go:76", after := #[{ on := 5, ground := Ground.data }, { on := 9, ground := Ground.gcOnly Departure.lateStores }], guard := none }) (v := ?d35_9xv7) rfl (by kernel_rfl) (by kernel_rfl) (by kernel_rfl) (fun _ _ _ h => h) (Or.inl ⟨by rfl, ?d35_9xy7⟩) (by assumption) ?d35_9xr7
          case d35_9xy7 => (intro w hSw; (try dsimp only at hSw); go_simp; try with_reducible rfl)
          (try simp only [Act.put])
          (try simp only [List.setIfInBounds_toArray])
          (try simp only [List.set_cons_succ])
          (try simp only [List.set_cons_zero])
          refine wpAnyH_ready (rs := [9]) (by kernel_rfl) (by simp) ?_
          refine AllReadyH.cons (o := { dst := none, op := Op.store 38 (Operand.tmp 10) (Operand.tmp 61), type := 0, pos := "law.go:76", after := #[{ on := 8, ground := Ground.data }, { on := 6, ground := Ground.data }, { on := 4, ground := Ground.chain }, { on := 0, ground := Ground.phase }, { on := 1, ground := Ground.phase }, { on := 2, ground := Ground.phase }, { on := 3, ground := Ground.phase }, { on := 4, ground := Ground.phase }, { on := 5, ground := Ground.phase }, { on := 6, ground := Ground.phase }, { on := 7, ground := Ground.textOnly Departure.lateStores }, { on := 8, ground := Ground.phase }], guard := none }) rfl (fun K hK => ?_) AllReadyH.nil
          obtain ⟨⟨m0, m1, m2, m3, m4⟩, g0, g1, g2, g3, g4⟩ := N.out.cells5
          go_simp
          clear m0 g0 m1 g1 m2 g2 m3 g3 m4 g4
          have W2' := Lib.hid (W2.out.only (by omega) ((((((Only.refl b10 v34).set 0 (.int .i64 xa)).set 1 (.int .u32 xb)).set 2 (.int .u32 xc)).set 3 (.int .i64 xd)).set 4 (.map xp)))
          have B5' := Lib.hid (B5.out.only (by omega) ((((((Only.refl b10 v34).set 0 (.int .i64 xa)).set 1 (.int .u32 xb)).set 2 (.int .u32 xc)).set 3 (.int .i64 xd)).set 4 (.map xp)))
          have H' := Lib.hid (H.out.only N.out (fun a n c e => by cases e; simp only; omega) ((((((Only.refl b10 v34).set 0 (.int .i64 xa)).set 1 (.int .u32 xb)).set 2 (.int .u32 xc)).set 3 (.int .i64 xd)).set 4 (.map xp)))
          have HI' := Lib.hid (IsOnes.onlyA HI.out (fun b off e h => by have := HAB.out b off e h; omega) ((((((Only.refl b10 v34).set 0 (.int .i64 xa)).set 1 (.int .u32 xb)).set 2 (.int .u32 xc)).set 3 (.int .i64 xd)).set 4 (.map xp)))
          have N' := Lib.hid ((((((N.out).set 0 (.int .i64 xa)).set 1 (.int .u32 xb)).set 2 (.int .u32 xc)).set 3 (.int .i64 xd)).set 4 (.map xp))
          have BB' := Lib.hid ((((((BB.out).put b10 (by omega) 0 (.int .i64 xa)).put b10 (by omega) 1 (.int .u32 xb)).put b10 (by omega) 2 (.int .u32 xc)).put b10 (by omega) 3 (.int .i64 xd)).put b10 (by omega) 4 (.map xp))
          clear W2
          have W2 := W2'
          clear W2'
          clear B5
          have B5 := B5'
          clear B5'
          clear H
          have H := H'
          clear H'
          clear HI
          have HI := HI'
          clear HI'
          clear N
          have N := N'
          clear N'
          clear BB
          have BB := BB'
          clear BB'
          generalize (World.setCell (World.setCell (World.setCell (World.setCell (World.setCell v34 ⟨b10, 0, none⟩ (.int .i64 xa)) ⟨b10, 1, none⟩ (.int .u32 xb)) ⟨b10, 2, none⟩ (.int .u32 xc)) ⟨b10, 3, none⟩ (.int .i64 xd)) ⟨b10, 4, none⟩ (.map xp)) = v35 at *
          refine hK.out _ _ ?_ (fun hHeld => ?_)
          · exact B5.out.cells1.1
          clear hK K
          (try simp only [Act.put])
          (try simp only [List.setIfInBounds_toArray])
          (try simp only [List.set_cons_succ])
          (try simp only [List.set_cons_zero])
          refine wpAnyH_ready (rs := [10]) (by kernel_rfl) (by simp) ?_
          refine AllReadyH.cons (o := { dst := some 11, op := Op.assign (Operand.tmp 62), type := 4, pos := "law.go:76", after := #[{ on := 7, ground := Ground.data }, { on := 9, ground := Ground.chain }, { on := 0, ground := Ground.phase }, { on := 1, ground := Ground.phase }, { on := 2, ground := Ground.phase }, { on := 3, ground := Ground.phase }, { on := 4, ground := Ground.phase }, { on := 5, ground := Ground.phase }, { on := 6, ground := Ground.phase }, { on := 7, ground := Ground.phase }, { on := 8, ground := Ground.phase }, { on := 9, ground := Ground.phase }], guard := none }) rfl (fun K hK => ?_) AllReadyH.nil
          go_simp
          refine hK.out _ _ ?_ (fun hHeld => ?_)
          · exact B5.out.cells1.1
          clear hK K
          (try simp only [Act.put])
          (try simp only [List.setIfInBounds_toArray])
          (try simp only [List.set_cons_succ])
          (try simp only [List.set_cons_zero])
          refine wpAnyH_done (by kernel_rfl) ?_ _
          go_wp2
          go_meet
          case rel => exact ⟨b10, rfl, rfl, N.out, W2.out, B5.out, H.out, HI.out, BB.out⟩
        refine AllReadyH.cons (o := { dst := some 10, op := Op.alloc 38, type := 0, pos := "law.go:76", after := #[], guard := none }) rfl (fun K hK => ?_) AllReadyH.nil
        go_simp
        have hlt_b10 := BB.out.size
        have hlt_b10_W2 := W2.out.lt
        have hlt_b10_B5 := B5.out.lt
        have hlt_b10_H := H.out.blt
        have W2' := Lib.hid (W2.out.below (below_new V28 (.cells #[.int .i64 0, .int .u32 0, .int .u32 0, .int .i64 0, .map none] 38)))
        have B5' := Lib.hid (B5.out.below (below_new V28 (.cells #[.int .i64 0, .int .u32 0, .int .u32 0, .int .i64 0, .map none] 38)))
        have H' := Lib.hid (H.out.below (below_new V28 (.cells #[.int .i64 0, .int .u32 0, .int .u32 0, .int .i64 0, .map none] 38)))
        have HI' := Lib.hid (HI.out.below (below_new V28 (.cells #[.int .i64 0, .int .u32 0, .int .u32 0, .int .i64 0, .map none] 38)))
        have BB' := Lib.hid (BB.out.trans ((below_new V28 (.cells #[.int .i64 0, .int .u32 0, .int .u32 0, .int .i64 0, .map none] 38)).mono BB.out.size))
        clear W2
        have W2 := W2'
        clear W2'
        clear B5
        have B5 := B5'
        clear B5'
        clear H
        have H := H'
        clear H'
        clear HI
        have HI := HI'
        clear HI'
        clear BB
        have BB := BB'
        clear BB'
        have N := Lib.hid (Box.new V28 #[.int .i64 0, .int .u32 0, .int .u32 0, .int .i64 0, .map none] 38 rfl)
        generalize World.alloc V28 (.cells #[.int .i64 0, .int .u32 0, .int .u32 0, .int .i64 0, .map none] 38) = v36 at *
        generalize World.heap V28 = hp_b10 at *
        generalize hp_b10.size = b10 at *
        refine hK.out _ _ ?_ (fun hHeld => ?_)
        · exact B5.out.cells1.1
        clear hK K
        (try simp only [Act.put])
        (try simp only [List.setIfInBounds_toArray])
        (try simp only [List.set_cons_succ])
        (try simp only [List.set_cons_zero])
        refine wpAnyH_ready (rs := [2]) (by kernel_rfl) (by simp) ?_
        refine AllReadyH.cons (o := { dst := some 58, op := Op.call { callee := Callee.value (Operand.func 13), args := #[Operand.tmp 57], argTypes := #[29] }, type := 3, pos := "law.go:76", after := #[{ on := 1, ground := Ground.data }], guard := none }) rfl (fun K hK => ?_) AllReadyH.nil
        go_simp
        go_at_call 13
        refine (len_c _ (k + 1) (k + 1) _).mono ?_
        rintro e v37 ⟨rfl, hb⟩
        have W2' := Lib.hid (W2.out.below (hb))
        have B5' := Lib.hid (B5.out.below (hb))
        have H' := Lib.hid (H.out.below (hb))
        have HI' := Lib.hid (HI.out.below (hb))
        have N' := Lib.hid (N.out.below (hb))
        have BB' := Lib.hid (BB.out.trans ((hb).mono BB.out.size))
        clear W2
        have W2 := W2'
        clear W2'
        clear B5
        have B5 := B5'
        clear B5'
        clear H
        have H := H'
        clear H'
        clear HI
        have HI := HI'
        clear HI'
        clear N
        have N := N'
        clear N'
        clear BB
        have BB := BB'
        clear BB'
        clear hb
        go_simp
        refine hK.out _ _ ?_ (fun hHeld => ?_)
        · exact B5.out.cells1.1
        clear hK K
        (try simp only [Act.put])
        (try simp only [List.setIfInBounds_toArray])
        (try simp only [List.set_cons_succ])
        (try simp only [List.set_cons_zero])
        refine wpAnyH_take (i := 3) (oi := { dst := some 59, op := Op.binOp BinOp.sub 3 (Operand.tmp 58) (Operand.const (Value.int IntKind.i64 1)) 3, type := 3, pos := "law.go:76", after := #[{ on := 2, ground := Ground.data }], guard := none }) (v := ?d38_10xv3) rfl (by kernel_rfl) (by kernel_rfl) (by kernel_rfl) (fun _ _ _ h => h) (Or.inl ⟨by rfl, ?d38_10xy3⟩) (by assumption) ?d38_10xr3
        case d38_10xy3 => (intro w hSw; (try dsimp only at hSw); go_simp; try with_reducible rfl)
        (try simp only [Act.put])
        (try simp only [List.setIfInBounds_toArray])
        (try simp only [List.set_cons_succ])
        (try simp only [List.set_cons_zero])
        refine wpAnyH_ready (rs := [4]) (by kernel_rfl) (by simp) ?_
        refine AllReadyH.cons (o := { dst := some 60, op := Op.call { callee := Callee.value (Operand.func 15), args := #[Operand.tmp 56, Operand.tmp 59], argTypes := #[29, 3] }, type := 42, pos := "law.go:76", after := #[{ on := 0, ground := Ground.data }, { on := 3, ground := Ground.data }, { on := 2, ground := Ground.chain }], guard := none }) rfl (fun K hK => ?_) AllReadyH.nil
        go_simp
        go_at_call 15
        (try rw [hw])
        refine (hat_in _ (q0 ++ [((⟨xa, xb, xc, xd, xm⟩ : Msg), xp)]) k _ _ H.out HX.out (by omega)).mono ?_
        rintro e v38 ⟨rfl, hb⟩
        have W2' := Lib.hid (W2.out.below (hb))
        have B5' := Lib.hid (B5.out.below (hb))
        have H' := Lib.hid (H.out.below (hb))
        have HI' := Lib.hid (HI.out.below (hb))
        have N' := Lib.hid (N.out.below (hb))
        have BB' := Lib.hid (BB.out.trans ((hb).mono BB.out.size))
        clear W2
        have W2 := W2'
        clear W2'
        clear B5
        have B5 := B5'
        clear B5'
        clear H
        have H := H'
        clear H'
        clear HI
        have HI := HI'
        clear HI'
        clear N
        have N := N'
        clear N'
        clear BB
        have BB := BB'
        clear BB'
        clear hb
        simp only [msgV]
        go_simp
        refine hK.out _ _ ?_ (fun hHeld => ?_)
        · exact B5.out.cells1.1
        clear hK K
        (try simp only [Act.put])
        (try simp only [List.setIfInBounds_toArray])
        (try simp only [List.set_cons_succ])
        (try simp only [List.set_cons_zero])
        refine wpAnyH_take (i := 5) (oi := { dst := some 55, op := Op.move (Operand.tmp 60), type := 42, pos := "law.go:76", after := #[{ on := 4, ground := Ground.data }], guard := none }) (v := ?d39_11xv5) rfl (by kernel_rfl) (by kernel_rfl) (by kernel_rfl) (fun _ _ _ h => h) (Or.inl ⟨by rfl, ?d39_11xy5⟩) (by assumption) ?d39_11xr5
        case d39_11xy5 => (intro w hSw; (try dsimp only at hSw); go_simp; try with_reducible rfl)
        (try simp only [Act.put])
        (try simp only [List.setIfInBounds_toArray])
        (try simp only [List.set_cons_succ])
        (try simp only [List.set_cons_zero])
        refine wpAnyH_take (i := 6) (oi := { dst := some 61, op := Op.extract (Operand.tmp 55) 0, type := 38, pos := "law.go:76", after := #[{ on := 5, ground := Ground.data }], guard := none }) (v := ?d39_12xv6) rfl (by kernel_rfl) (by kernel_rfl) (by kernel_rfl) (fun _ _ _ h => h) (Or.inl ⟨by rfl, ?d39_12xy6⟩) (by assumption) ?d39_12xr6
        case d39_12xy6 => (intro w hSw; (try dsimp only at hSw); go_simp; try with_reducible rfl)
        (try simp only [Act.put])
        (try simp only [List.setIfInBounds_toArray])
        (try simp only [List.set_cons_succ])
        (try simp only [List.set_cons_zero])
        refine wpAnyH_take (i := 7) (oi := { dst := some 62, op := Op.extract (Operand.tmp 55) 1, type := 4, pos := "law.go:76", after := #[{ on := 5, ground := Ground.data }, { on := 9, ground := Ground.gcOnly Departure.lateStores }], guard := none }) (v := ?d39_13xv7) rfl (by kernel_rfl) (by kernel_rfl) (by kernel_rfl) (fun _ _ _ h => h) (Or.inl ⟨by rfl, ?d39_13xy7⟩) (by assumption) ?d39_13xr7
        case d39_13xy7 => (intro w hSw; (try dsimp only at hSw); go_simp; try with_reducible rfl)
        (try simp only [Act.put])
        (try simp only [List.setIfInBounds_toArray])
        (try simp only [List.set_cons_succ])
        (try simp only [List.set_cons_zero])
        refine wpAnyH_ready (rs := [9]) (by kernel_rfl) (by simp) ?_
        refine AllReadyH.cons (o := { dst := none, op := Op.store 38 (Operand.tmp 10) (Operand.tmp 61), type := 0, pos := "law.go:76", after := #[{ on := 8, ground := Ground.data }, { on := 6, ground := Ground.data }, { on := 4, ground := Ground.chain }, { on := 0, ground := Ground.phase }, { on := 1, ground := Ground.phase }, { on := 2, ground := Ground.phase }, { on := 3, ground := Ground.phase }, { on := 4, ground := Ground.phase }, { on := 5, ground := Ground.phase }, { on := 6, ground := Ground.phase }, { on := 7, ground := Ground.textOnly Departure.lateStores }, { on := 8, ground := Ground.phase }], guard := none }) rfl (fun K hK => ?_) AllReadyH.nil
        obtain ⟨⟨m0, m1, m2, m3, m4⟩, g0, g1, g2, g3, g4⟩ := N.out.cells5
        go_simp
        clear m0 g0 m1 g1 m2 g2 m3 g3 m4 g4
        have W2' := Lib.hid (W2.out.only (by omega) ((((((Only.refl b10 v38).set 0 (.int .i64 xa)).set 1 (.int .u32 xb)).set 2 (.int .u32 xc)).set 3 (.int .i64 xd)).set 4 (.map xp)))
        have B5' := Lib.hid (B5.out.only (by omega) ((((((Only.refl b10 v38).set 0 (.int .i64 xa)).set 1 (.int .u32 xb)).set 2 (.int .u32 xc)).set 3 (.int .i64 xd)).set 4 (.map xp)))
        have H' := Lib.hid (H.out.only N.out (fun a n c e => by cases e; simp only; omega) ((((((Only.refl b10 v38).set 0 (.int .i64 xa)).set 1 (.int .u32 xb)).set 2 (.int .u32 xc)).set 3 (.int .i64 xd)).set 4 (.map xp)))
        have HI' := Lib.hid (IsOnes.onlyA HI.out (fun b off e h => by have := HAB.out b off e h; omega) ((((((Only.refl b10 v38).set 0 (.int .i64 xa)).set 1 (.int .u32 xb)).set 2 (.int .u32 xc)).set 3 (.int .i64 xd)).set 4 (.map xp)))
        have N' := Lib.hid ((((((N.out).set 0 (.int .i64 xa)).set 1 (.int .u32 xb)).set 2 (.int .u32 xc)).set 3 (.int .i64 xd)).set 4 (.map xp))
        have BB' := Lib.hid ((((((BB.out).put b10 (by omega) 0 (.int .i64 xa)).put b10 (by omega) 1 (.int .u32 xb)).put b10 (by omega) 2 (.int .u32 xc)).put b10 (by omega) 3 (.int .i64 xd)).put b10 (by omega) 4 (.map xp))
        clear W2
        have W2 := W2'
        clear W2'
        clear B5
        have B5 := B5'
        clear B5'
        clear H
        have H := H'
        clear H'
        clear HI
        have HI := HI'
        clear HI'
        clear N
        have N := N'
        clear N'
        clear BB
        have BB := BB'
        clear BB'
        generalize (World.setCell (World.setCell (World.setCell (World.setCell (World.setCell v38 ⟨b10, 0, none⟩ (.int .i64 xa)) ⟨b10, 1, none⟩ (.int .u32 xb)) ⟨b10, 2, none⟩ (.int .u32 xc)) ⟨b10, 3, none⟩ (.int .i64 xd)) ⟨b10, 4, none⟩ (.map xp)) = v39 at *
        refine hK.out _ _ ?_ (fun hHeld => ?_)
        · exact B5.out.cells1.1
        clear hK K
        (try simp only [Act.put])
        (try simp only [List.setIfInBounds_toArray])
        (try simp only [List.set_cons_succ])
        (try simp only [List.set_cons_zero])
        refine wpAnyH_ready (rs := [10]) (by kernel_rfl) (by simp) ?_
        refine AllReadyH.cons (o := { dst := some 11, op := Op.assign (Operand.tmp 62), type := 4, pos := "law.go:76", after := #[{ on := 7, ground := Ground.data }, { on := 9, ground := Ground.chain }, { on := 0, ground := Ground.phase }, { on := 1, ground := Ground.phase }, { on := 2, ground := Ground.phase }, { on := 3, ground := Ground.phase }, { on := 4, ground := Ground.phase }, { on := 5, ground := Ground.phase }, { on := 6, ground := Ground.phase }, { on := 7, ground := Ground.phase }, { on := 8, ground := Ground.phase }, { on := 9, ground := Ground.phase }], guard := none }) rfl (fun K hK => ?_) AllReadyH.nil
        go_simp
        refine hK.out _ _ ?_ (fun hHeld => ?_)
        · exact B5.out.cells1.1
        clear hK K
        (try simp only [Act.put])
        (try simp only [List.setIfInBounds_toArray])
        (try simp only [List.set_cons_succ])
        (try simp only [List.set_cons_zero])
        refine wpAnyH_done (by kernel_rfl) ?_ _
        go_wp2
        go_meet
        case rel => exact ⟨b10, rfl, rfl, N.out, W2.out, B5.out, H.out, HI.out, BB.out⟩
      case rest =>
        obtain ⟨b10, rfl, rfl, N', W2', B5', H', HI', BB'⟩ := hcut
        clear W2 B5 H HI BB
        have N := Lib.hid N'
        clear N'
        have W2 := Lib.hid W2'
        clear W2'
        have B5 := Lib.hid B5'
        clear B5'
        have H := Lib.hid H'
        clear H'
        have HI := Lib.hid HI'
        clear HI'
        have BB := Lib.hid BB'
        clear BB'
        go_upto_region 14 with fail
        have W2' := Lib.hid (W2.out.below ((Below.refl _ _).drew))
        have B5' := Lib.hid (B5.out.below ((Below.refl _ _).drew))
        have H' := Lib.hid (H.out.below ((Below.refl _ _).drew))
        have HI' := Lib.hid (HI.out.below ((Below.refl _ _).drew))
        have N' := Lib.hid (N.out.below ((Below.refl _ _).drew))
        have BB' := Lib.hid (BB.out.trans (((Below.refl _ _).drew).mono BB.out.size))
        clear W2
        have W2 := W2'
        clear W2'
        clear B5
        have B5 := B5'
        clear B5'
        clear H
        have H := H'
        clear H'
        clear HI
        have HI := HI'
        clear HI'
        clear N
        have N := N'
        clear N'
        clear BB
        have BB := BB'
        clear BB'
        refine wp_region_held_drew (S := fun w' => w'.cell? ⟨b5, 0, none⟩ = some (.slice (some ⟨bq, 0, none⟩) (k + 1) (k + 1)) ∧ w'.cell? ⟨b2, 0, none⟩ = some (.int .i64 x) ∧ w'.cell? ⟨b2, 1, none⟩ = some (.int .u32 y) ∧ w'.cell? ⟨b2, 2, none⟩ = some (.int .u32 z) ∧ w'.cell? ⟨b10, 0, none⟩ = some (.int .i64 xa) ∧ w'.cell? ⟨b10, 1, none⟩ = some (.int .u32 xb) ∧ w'.cell? ⟨b10, 2, none⟩ = some (.int .u32 xc) ∧ w'.cell? ⟨b10, 3, none⟩ = some (.int .i64 xd) ∧ w'.cell? ⟨b10, 4, none⟩ = some (.map xp)) (by kernel_rfl) ⟨B5.out.cells1.1, W2.out.cell 0, W2.out.cell 1, W2.out.cell 2, N.out.cell 0, N.out.cell 1, N.out.cell 2, N.out.cell 3, N.out.cell 4⟩ (fun hHeld => ?_)
        generalize World.drew wc = V40 at *
        refine wpAnyH_ready (rs := [0]) (by kernel_rfl) (by simp) ?_
        refine AllReadyH.cons (o := { dst := some 63, op := Op.call { callee := Callee.value (Operand.func 8), args := #[], argTypes := #[] }, type := 4, pos := "law.go:77", after := #[], guard := none }) rfl (fun K hK => ?_) AllReadyH.nil
        go_simp
        go_at_call 8
        refine (awake_any _).mono ?_
        rintro e v41 ⟨rfl, hb⟩
        have W2' := Lib.hid (W2.out.below (hb))
        have B5' := Lib.hid (B5.out.below (hb))
        have H' := Lib.hid (H.out.below (hb))
        have HI' := Lib.hid (HI.out.below (hb))
        have N' := Lib.hid (N.out.below (hb))
        have BB' := Lib.hid (BB.out.trans ((hb).mono BB.out.size))
        clear W2
        have W2 := W2'
        clear W2'
        clear B5
        have B5 := B5'
        clear B5'
        clear H
        have H := H'
        clear H'
        clear HI
        have HI := HI'
        clear HI'
        clear N
        have N := N'
        clear N'
        clear BB
        have BB := BB'
        clear BB'
        clear hb
        go_simp
        refine hK.out _ _ ?_ (fun hHeld => ?_)
        · exact ⟨B5.out.cells1.1, W2.out.cell 0, W2.out.cell 1, W2.out.cell 2, N.out.cell 0, N.out.cell 1, N.out.cell 2, N.out.cell 3, N.out.cell 4⟩
        clear hK K
        (try simp only [Act.put])
        (try simp only [List.setIfInBounds_toArray])
        (try simp only [List.set_cons_succ])
        (try simp only [List.set_cons_zero])
        refine wpAnyH_take (i := 1) (oi := { dst := some 64, op := Op.move (Operand.tmp 63), type := 4, pos := "law.go:77", after := #[{ on := 0, ground := Ground.data }, { on := 0, ground := Ground.chain }], guard := none }) (v := ?d42_1xv1) rfl (by kernel_rfl) (by kernel_rfl) (by kernel_rfl) (fun _ _ _ h => h) (Or.inl ⟨by rfl, ?d42_1xy1⟩) (by assumption) ?d42_1xr1
        case d42_1xy1 => (intro w hSw; (try dsimp only at hSw); go_simp; try with_reducible rfl)
        (try simp only [Act.put])
        (try simp only [List.setIfInBounds_toArray])
        (try simp only [List.set_cons_succ])
        (try simp only [List.set_cons_zero])
        refine wpAnyH_take (i := 2) (oi := { dst := some 65, op := Op.load 29 (Operand.tmp 5), type := 29, pos := "law.go:77", after := #[{ on := 1, ground := Ground.guard }], guard := some (1, true) }) (v := ?d42_2xv2) rfl (by kernel_rfl) (by kernel_rfl) (by kernel_rfl) (fun _ _ _ h => h) (Or.inl ⟨by rfl, ?d42_2xy2⟩) (by assumption) ?d42_2xr2
        case d42_2xy2 => (intro w hSw; (try dsimp only at hSw); go_simp; try with_reducible rfl)
        (try simp only [Act.put])
        (try simp only [List.setIfInBounds_toArray])
        (try simp only [List.set_cons_succ])
        (try simp only [List.set_cons_zero])
        refine wpAnyH_take (i := 3) (oi := { dst := some 66, op := Op.load 24 (Operand.tmp 2), type := 24, pos := "law.go:77", after := #[{ on := 1, ground := Ground.guard }], guard := some (1, true) }) (v := ?d42_3xv3) rfl (by kernel_rfl) (by kernel_rfl) (by kernel_rfl) (fun _ _ _ h => h) (Or.inl ⟨by rfl, ?d42_3xy3⟩) (by assumption) ?d42_3xr3
        case d42_3xy3 => (intro w hSw; (try dsimp only at hSw); go_simp; try with_reducible rfl)
        (try simp only [Act.put])
        (try simp only [List.setIfInBounds_toArray])
        (try simp only [List.set_cons_succ])
        (try simp only [List.set_cons_zero])
        refine wpAnyH_take (i := 4) (oi := { dst := some 67, op := Op.move (Operand.tmp 1), type := 25, pos := "law.go:77", after := #[{ on := 1, ground := Ground.guard }], guard := some (1, true) }) (v := ?d42_4xv4) rfl (by kernel_rfl) (by kernel_rfl) (by kernel_rfl) (fun _ _ _ h => h) (Or.inl ⟨by rfl, ?d42_4xy4⟩) (by assumption) ?d42_4xr4
        case d42_4xy4 => (intro w hSw; (try dsimp only at hSw); go_simp; try with_reducible rfl)
        (try simp only [Act.put])
        (try simp only [List.setIfInBounds_toArray])
        (try simp only [List.set_cons_succ])
        (try simp only [List.set_cons_zero])
        refine wpAnyH_ready (rs := [5]) (by kernel_rfl) (by simp) ?_
        refine AllReadyH.cons (o := { dst := some 68, op := Op.call { callee := Callee.value (Operand.func 12), args := #[Operand.tmp 65, Operand.tmp 66, Operand.tmp 67], argTypes := #[29, 24, 25] }, type := 4, pos := "law.go:77", after := #[{ on := 2, ground := Ground.data }, { on := 3, ground := Ground.data }, { on := 4, ground := Ground.data }, { on := 1, ground := Ground.chain }, { on := 1, ground := Ground.guard }], guard := some (1, true) }) rfl (fun K hK => ?_) AllReadyH.nil
        go_simp
        go_at_call 12
        refine (is_true _ _ (q0 ++ [((⟨xa, xb, xc, xd, xm⟩ : Msg), xp)]) x y z l _ H.out HQ2.out HI.out HO.out (by rw [HN.out]; omega)).mono ?_
        rintro e v42 ⟨rfl, hb⟩
        have W2' := Lib.hid (W2.out.below (hb))
        have B5' := Lib.hid (B5.out.below (hb))
        have H' := Lib.hid (H.out.below (hb))
        have HI' := Lib.hid (HI.out.below (hb))
        have N' := Lib.hid (N.out.below (hb))
        have BB' := Lib.hid (BB.out.trans ((hb).mono BB.out.size))
        clear W2
        have W2 := W2'
        clear W2'
        clear B5
        have B5 := B5'
        clear B5'
        clear H
        have H := H'
        clear H'
        clear HI
        have HI := HI'
        clear HI'
        clear N
        have N := N'
        clear N'
        clear BB
        have BB := BB'
        clear BB'
        clear hb
        go_simp
        refine hK.out _ _ ?_ (fun hHeld => ?_)
        · exact ⟨B5.out.cells1.1, W2.out.cell 0, W2.out.cell 1, W2.out.cell 2, N.out.cell 0, N.out.cell 1, N.out.cell 2, N.out.cell 3, N.out.cell 4⟩
        clear hK K
        (try simp only [Act.put])
        (try simp only [List.setIfInBounds_toArray])
        (try simp only [List.set_cons_succ])
        (try simp only [List.set_cons_zero])
        refine wpAnyH_take (i := 6) (oi := { dst := some 69, op := Op.pick (Operand.tmp 64) (Operand.tmp 68) (Operand.const (Value.bool false)), type := 4, pos := "law.go:77", after := #[{ on := 1, ground := Ground.data }, { on := 5, ground := Ground.data }], guard := none }) (v := ?d43_5xv6) rfl (by kernel_rfl) (by kernel_rfl) (by kernel_rfl) (fun _ _ _ h => h) (Or.inl ⟨by rfl, ?d43_5xy6⟩) (by assumption) ?d43_5xr6
        case d43_5xy6 => (intro w hSw; (try dsimp only at hSw); go_simp; try with_reducible rfl)
        (try simp only [Act.put])
        (try simp only [List.setIfInBounds_toArray])
        (try simp only [List.set_cons_succ])
        (try simp only [List.set_cons_zero])
        refine wpAnyH_take (i := 7) (oi := { dst := some 70, op := Op.move (Operand.tmp 69), type := 4, pos := "law.go:77", after := #[{ on := 6, ground := Ground.data }, { on := 5, ground := Ground.chain }], guard := none }) (v := ?d43_6xv7) rfl (by kernel_rfl) (by kernel_rfl) (by kernel_rfl) (fun _ _ _ h => h) (Or.inl ⟨by rfl, ?d43_6xy7⟩) (by assumption) ?d43_6xr7
        case d43_6xy7 => (intro w hSw; (try dsimp only at hSw); go_simp; try with_reducible rfl)
        (try simp only [Act.put])
        (try simp only [List.setIfInBounds_toArray])
        (try simp only [List.set_cons_succ])
        (try simp only [List.set_cons_zero])
        refine wpAnyH_take (i := 8) (oi := { dst := some 71, op := Op.move (Operand.tmp 11), type := 4, pos := "law.go:77", after := #[{ on := 7, ground := Ground.guard }], guard := some (7, true) }) (v := ?d43_7xv8) rfl (by kernel_rfl) (by kernel_rfl) (by kernel_rfl) (fun _ _ _ h => h) (Or.inl ⟨by rfl, ?d43_7xy8⟩) (by assumption) ?d43_7xr8
        case d43_7xy8 => (intro w hSw; (try dsimp only at hSw); go_simp; try with_reducible rfl)
        (try simp only [Act.put])
        (try simp only [List.setIfInBounds_toArray])
        (try simp only [List.set_cons_succ])
        (try simp only [List.set_cons_zero])
        refine wpAnyH_take (i := 9) (oi := { dst := some 72, op := Op.pick (Operand.tmp 70) (Operand.tmp 71) (Operand.const (Value.bool false)), type := 4, pos := "law.go:77", after := #[{ on := 7, ground := Ground.data }, { on := 8, ground := Ground.data }], guard := none }) (v := ?d43_8xv9) rfl (by kernel_rfl) (by kernel_rfl) (by kernel_rfl) (fun _ _ _ h => h) (Or.inl ⟨by rfl, ?d43_8xy9⟩) (by assumption) ?d43_8xr9
        case d43_8xy9 => (intro w hSw; (try dsimp only at hSw); go_simp; try with_reducible rfl)
        (try simp only [Act.put])
        (try simp only [List.setIfInBounds_toArray])
        (try simp only [List.set_cons_succ])
        (try simp only [List.set_cons_zero])
        refine wpAnyH_take (i := 10) (oi := { dst := some 73, op := Op.move (Operand.tmp 72), type := 4, pos := "law.go:77", after := #[{ on := 9, ground := Ground.data }, { on := 7, ground := Ground.chain }], guard := none }) (v := ?d43_9xv10) rfl (by kernel_rfl) (by kernel_rfl) (by kernel_rfl) (fun _ _ _ h => h) (Or.inl ⟨by rfl, ?d43_9xy10⟩) (by assumption) ?d43_9xr10
        case d43_9xy10 => (intro w hSw; (try dsimp only at hSw); go_simp; try with_reducible rfl)
        (try simp only [Act.put])
        (try simp only [List.setIfInBounds_toArray])
        (try simp only [List.set_cons_succ])
        (try simp only [List.set_cons_zero])
        refine wpAnyH_take (i := 11) (oi := { dst := some 74, op := Op.fieldAddr 38 (Operand.tmp 10) 0, type := 0, pos := "law.go:77", after := #[{ on := 10, ground := Ground.guard }], guard := some (10, true) }) (v := ?d43_10xv11) rfl (by kernel_rfl) (by kernel_rfl) (by kernel_rfl) (fun _ _ _ h => h) (Or.inl ⟨by rfl, ?d43_10xy11⟩) (by assumption) ?d43_10xr11
        case d43_10xy11 => (intro w hSw; (try dsimp only at hSw); go_simp; try with_reducible rfl)
        (try simp only [Act.put])
        (try simp only [List.setIfInBounds_toArray])
        (try simp only [List.set_cons_succ])
        (try simp only [List.set_cons_zero])
        refine wpAnyH_take (i := 12) (oi := { dst := some 75, op := Op.load 24 (Operand.tmp 74), type := 24, pos := "law.go:77", after := #[{ on := 11, ground := Ground.data }, { on := 10, ground := Ground.guard }], guard := some (10, true) }) (v := ?d43_11xv12) rfl (by kernel_rfl) (by kernel_rfl) (by kernel_rfl) (fun _ _ _ h => h) (Or.inl ⟨by rfl, ?d43_11xy12⟩) (by assumption) ?d43_11xr12
        case d43_11xy12 => (intro w hSw; (try dsimp only at hSw); go_simp; try with_reducible rfl)
        (try simp only [Act.put])
        (try simp only [List.setIfInBounds_toArray])
        (try simp only [List.set_cons_succ])
        (try simp only [List.set_cons_zero])
        refine wpAnyH_take (i := 13) (oi := { dst := some 76, op := Op.load 29 (Operand.tmp 5), type := 29, pos := "law.go:77", after := #[{ on := 10, ground := Ground.guard }], guard := some (10, true) }) (v := ?d43_12xv13) rfl (by kernel_rfl) (by kernel_rfl) (by kernel_rfl) (fun _ _ _ h => h) (Or.inl ⟨by rfl, ?d43_12xy13⟩) (by assumption) ?d43_12xr13
        case d43_12xy13 => (intro w hSw; (try dsimp only at hSw); go_simp; try with_reducible rfl)
        (try simp only [Act.put])
        (try simp only [List.setIfInBounds_toArray])
        (try simp only [List.set_cons_succ])
        (try simp only [List.set_cons_zero])
        refine wpAnyH_ready (rs := [14]) (by kernel_rfl) (by simp) ?_
        refine AllReadyH.cons (o := { dst := some 77, op := Op.call { callee := Callee.value (Operand.func 14), args := #[Operand.tmp 76], argTypes := #[29] }, type := 38, pos := "law.go:77", after := #[{ on := 13, ground := Ground.data }, { on := 10, ground := Ground.chain }, { on := 10, ground := Ground.guard }], guard := some (10, true) }) rfl (fun K hK => ?_) AllReadyH.nil
        go_simp
        go_at_call 14
        refine (last_some _ q0 (⟨xa, xb, xc, xd, xm⟩, xp) _ H.out (by omega)).mono ?_
        rintro e v43 ⟨rfl, hb⟩
        have W2' := Lib.hid (W2.out.below (hb))
        have B5' := Lib.hid (B5.out.below (hb))
        have H' := Lib.hid (H.out.below (hb))
        have HI' := Lib.hid (HI.out.below (hb))
        have N' := Lib.hid (N.out.below (hb))
        have BB' := Lib.hid (BB.out.trans ((hb).mono BB.out.size))
        clear W2
        have W2 := W2'
        clear W2'
        clear B5
        have B5 := B5'
        clear B5'
        clear H
        have H := H'
        clear H'
        clear HI
        have HI := HI'
        clear HI'
        clear N
        have N := N'
        clear N'
        clear BB
        have BB := BB'
        clear BB'
        clear hb
        simp only [msgV]
        go_simp
        refine hK.out _ _ ?_ (fun hHeld => ?_)
        · exact ⟨B5.out.cells1.1, W2.out.cell 0, W2.out.cell 1, W2.out.cell 2, N.out.cell 0, N.out.cell 1, N.out.cell 2, N.out.cell 3, N.out.cell 4⟩
        clear hK K
        (try simp only [Act.put])
        (try simp only [List.setIfInBounds_toArray])
        (try simp only [List.set_cons_succ])
        (try simp only [List.set_cons_zero])
        refine wpAnyH_take (i := 15) (oi := { dst := some 78, op := Op.field 38 (Operand.tmp 77) 0, type := 24, pos := "law.go:77", after := #[{ on := 14, ground := Ground.data }, { on := 10, ground := Ground.guard }], guard := some (10, true) }) (v := ?d44_13xv15) rfl (by kernel_rfl) (by kernel_rfl) (by kernel_rfl) (fun _ _ _ h => h) (Or.inl ⟨by rfl, ?d44_13xy15⟩) (by assumption) ?d44_13xr15
        case d44_13xy15 => (intro w hSw; (try dsimp only at hSw); go_simp; try with_reducible rfl)
        (try simp only [Act.put])
        (try simp only [List.setIfInBounds_toArray])
        (try simp only [List.set_cons_succ])
        (try simp only [List.set_cons_zero])
        refine wpAnyH_take (i := 16) (oi := { dst := some 79, op := Op.binOp BinOp.eql 24 (Operand.tmp 75) (Operand.tmp 78) 24, type := 4, pos := "law.go:77", after := #[{ on := 12, ground := Ground.data }, { on := 15, ground := Ground.data }, { on := 10, ground := Ground.guard }], guard := some (10, true) }) (v := ?d44_14xv16) rfl (by kernel_rfl) (by kernel_rfl) (by kernel_rfl) (fun _ _ _ h => h) (Or.inl ⟨by rfl, ?d44_14xy16⟩) (by assumption) ?d44_14xr16
        case d44_14xy16 => (intro w hSw; (try dsimp only at hSw); go_simp; try with_reducible rfl)
        (try simp only [Act.put])
        (try simp only [List.setIfInBounds_toArray])
        (try simp only [List.set_cons_succ])
        (try simp only [List.set_cons_zero])
        refine wpAnyH_take (i := 17) (oi := { dst := some 80, op := Op.pick (Operand.tmp 73) (Operand.tmp 79) (Operand.const (Value.bool false)), type := 4, pos := "law.go:77", after := #[{ on := 10, ground := Ground.data }, { on := 16, ground := Ground.data }], guard := none }) (v := ?d44_15xv17) rfl (by kernel_rfl) (by kernel_rfl) (by kernel_rfl) (fun _ _ _ h => h) (Or.inl ⟨by rfl, ?d44_15xy17⟩) (by assumption) ?d44_15xr17
        case d44_15xy17 => (intro w hSw; (try dsimp only at hSw); go_simp; try with_reducible rfl)
        (try simp only [Act.put])
        (try simp only [List.setIfInBounds_toArray])
        (try simp only [List.set_cons_succ])
        (try simp only [List.set_cons_zero])
        refine wpAnyH_take (i := 18) (oi := { dst := some 81, op := Op.move (Operand.tmp 80), type := 4, pos := "law.go:77", after := #[{ on := 17, ground := Ground.data }, { on := 14, ground := Ground.chain }], guard := none }) (v := ?d44_16xv18) rfl (by kernel_rfl) (by kernel_rfl) (by kernel_rfl) (fun _ _ _ h => h) (Or.inl ⟨by rfl, ?d44_16xy18⟩) (by assumption) ?d44_16xr18
        case d44_16xy18 => (intro w hSw; (try dsimp only at hSw); go_simp; try with_reducible rfl)
        (try simp only [Act.put])
        (try simp only [List.setIfInBounds_toArray])
        (try simp only [List.set_cons_succ])
        (try simp only [List.set_cons_zero])
        refine wpAnyH_take (i := 19) (oi := { dst := some 82, op := Op.fieldAddr 38 (Operand.tmp 10) 1, type := 0, pos := "law.go:77", after := #[{ on := 18, ground := Ground.guard }], guard := some (18, true) }) (v := ?d44_17xv19) rfl (by kernel_rfl) (by kernel_rfl) (by kernel_rfl) (fun _ _ _ h => h) (Or.inl ⟨by rfl, ?d44_17xy19⟩) (by assumption) ?d44_17xr19
        case d44_17xy19 => (intro w hSw; (try dsimp only at hSw); go_simp; try with_reducible rfl)
        (try simp only [Act.put])
        (try simp only [List.setIfInBounds_toArray])
        (try simp only [List.set_cons_succ])
        (try simp only [List.set_cons_zero])
        refine wpAnyH_take (i := 20) (oi := { dst := some 83, op := Op.load 3 (Operand.tmp 82), type := 3, pos := "law.go:77", after := #[{ on := 19, ground := Ground.data }, { on := 18, ground := Ground.guard }], guard := some (18, true) }) (v := ?d44_18xv20) rfl (by kernel_rfl) (by kernel_rfl) (by kernel_rfl) (fun _ _ _ h => h) (Or.inl ⟨by rfl, ?d44_18xy20⟩) (by assumption) ?d44_18xr20
        case d44_18xy20 => (intro w hSw; (try dsimp only at hSw); go_simp; try with_reducible rfl)
        (try simp only [Act.put])
        (try simp only [List.setIfInBounds_toArray])
        (try simp only [List.set_cons_succ])
        (try simp only [List.set_cons_zero])
        refine wpAnyH_take (i := 21) (oi := { dst := some 84, op := Op.load 29 (Operand.tmp 5), type := 29, pos := "law.go:77", after := #[{ on := 18, ground := Ground.guard }], guard := some (18, true) }) (v := ?d44_19xv21) rfl (by kernel_rfl) (by kernel_rfl) (by kernel_rfl) (fun _ _ _ h => h) (Or.inl ⟨by rfl, ?d44_19xy21⟩) (by assumption) ?d44_19xr21
        case d44_19xy21 => (intro w hSw; (try dsimp only at hSw); go_simp; try with_reducible rfl)
        (try simp only [Act.put])
        (try simp only [List.setIfInBounds_toArray])
        (try simp only [List.set_cons_succ])
        (try simp only [List.set_cons_zero])
        refine wpAnyH_ready (rs := [22]) (by kernel_rfl) (by simp) ?_
        refine AllReadyH.cons (o := { dst := some 85, op := Op.call { callee := Callee.value (Operand.func 14), args := #[Operand.tmp 84], argTypes := #[29] }, type := 38, pos := "law.go:77", after := #[{ on := 21, ground := Ground.data }, { on := 18, ground := Ground.chain }, { on := 18, ground := Ground.guard }], guard := some (18, true) }) rfl (fun K hK => ?_) AllReadyH.nil
        go_simp
        go_at_call 14
        refine (last_some _ q0 (⟨xa, xb, xc, xd, xm⟩, xp) _ H.out (by omega)).mono ?_
        rintro e v44 ⟨rfl, hb⟩
        have W2' := Lib.hid (W2.out.below (hb))
        have B5' := Lib.hid (B5.out.below (hb))
        have H' := Lib.hid (H.out.below (hb))
        have HI' := Lib.hid (HI.out.below (hb))
        have N' := Lib.hid (N.out.below (hb))
        have BB' := Lib.hid (BB.out.trans ((hb).mono BB.out.size))
        clear W2
        have W2 := W2'
        clear W2'
        clear B5
        have B5 := B5'
        clear B5'
        clear H
        have H := H'
        clear H'
        clear HI
        have HI := HI'
        clear HI'
        clear N
        have N := N'
        clear N'
        clear BB
        have BB := BB'
        clear BB'
        clear hb
        simp only [msgV]
        go_simp
        refine hK.out _ _ ?_ (fun hHeld => ?_)
        · exact ⟨B5.out.cells1.1, W2.out.cell 0, W2.out.cell 1, W2.out.cell 2, N.out.cell 0, N.out.cell 1, N.out.cell 2, N.out.cell 3, N.out.cell 4⟩
        clear hK K
        (try simp only [Act.put])
        (try simp only [List.setIfInBounds_toArray])
        (try simp only [List.set_cons_succ])
        (try simp only [List.set_cons_zero])
        refine wpAnyH_take (i := 23) (oi := { dst := some 86, op := Op.field 38 (Operand.tmp 85) 1, type := 3, pos := "law.go:77", after := #[{ on := 22, ground := Ground.data }, { on := 18, ground := Ground.guard }], guard := some (18, true) }) (v := ?d45_20xv23) rfl (by kernel_rfl) (by kernel_rfl) (by kernel_rfl) (fun _ _ _ h => h) (Or.inl ⟨by rfl, ?d45_20xy23⟩) (by assumption) ?d45_20xr23
        case d45_20xy23 => (intro w hSw; (try dsimp only at hSw); go_simp; try with_reducible rfl)
        (try simp only [Act.put])
        (try simp only [List.setIfInBounds_toArray])
        (try simp only [List.set_cons_succ])
        (try simp only [List.set_cons_zero])
        refine wpAnyH_take (i := 24) (oi := { dst := some 87, op := Op.binOp BinOp.eql 3 (Operand.tmp 83) (Operand.tmp 86) 3, type := 4, pos := "law.go:77", after := #[{ on := 20, ground := Ground.data }, { on := 23, ground := Ground.data }, { on := 18, ground := Ground.guard }], guard := some (18, true) }) (v := ?d45_21xv24) rfl (by kernel_rfl) (by kernel_rfl) (by kernel_rfl) (fun _ _ _ h => h) (Or.inl ⟨by rfl, ?d45_21xy24⟩) (by assumption) ?d45_21xr24
        case d45_21xy24 => (intro w hSw; (try dsimp only at hSw); go_simp; try with_reducible rfl)
        (try simp only [Act.put])
        (try simp only [List.setIfInBounds_toArray])
        (try simp only [List.set_cons_succ])
        (try simp only [List.set_cons_zero])
        refine wpAnyH_take (i := 25) (oi := { dst := some 88, op := Op.pick (Operand.tmp 81) (Operand.tmp 87) (Operand.const (Value.bool false)), type := 4, pos := "law.go:77", after := #[{ on := 18, ground := Ground.data }, { on := 24, ground := Ground.data }], guard := none }) (v := ?d45_22xv25) rfl (by kernel_rfl) (by kernel_rfl) (by kernel_rfl) (fun _ _ _ h => h) (Or.inl ⟨by rfl, ?d45_22xy25⟩) (by assumption) ?d45_22xr25
        case d45_22xy25 => (intro w hSw; (try dsimp only at hSw); go_simp; try with_reducible rfl)
        (try simp only [Act.put])
        (try simp only [List.setIfInBounds_toArray])
        (try simp only [List.set_cons_succ])
        (try simp only [List.set_cons_zero])
        refine wpAnyH_take (i := 26) (oi := { dst := some 89, op := Op.move (Operand.tmp 88), type := 4, pos := "law.go:77", after := #[{ on := 25, ground := Ground.data }, { on := 22, ground := Ground.chain }], guard := none }) (v := ?d45_23xv26) rfl (by kernel_rfl) (by kernel_rfl) (by kernel_rfl) (fun _ _ _ h => h) (Or.inl ⟨by rfl, ?d45_23xy26⟩) (by assumption) ?d45_23xr26
        case d45_23xy26 => (intro w hSw; (try dsimp only at hSw); go_simp; try with_reducible rfl)
        (try simp only [Act.put])
        (try simp only [List.setIfInBounds_toArray])
        (try simp only [List.set_cons_succ])
        (try simp only [List.set_cons_zero])
        refine wpAnyH_take (i := 27) (oi := { dst := some 90, op := Op.fieldAddr 38 (Operand.tmp 10) 2, type := 0, pos := "law.go:77", after := #[{ on := 26, ground := Ground.guard }], guard := some (26, true) }) (v := ?d45_24xv27) rfl (by kernel_rfl) (by kernel_rfl) (by kernel_rfl) (fun _ _ _ h => h) (Or.inl ⟨by rfl, ?d45_24xy27⟩) (by assumption) ?d45_24xr27
        case d45_24xy27 => (intro w hSw; (try dsimp only at hSw); go_simp; try with_reducible rfl)
        (try simp only [Act.put])
        (try simp only [List.setIfInBounds_toArray])
        (try simp only [List.set_cons_succ])
        (try simp only [List.set_cons_zero])
        refine wpAnyH_take (i := 28) (oi := { dst := some 91, op := Op.load 36 (Operand.tmp 90), type := 36, pos := "law.go:77", after := #[{ on := 27, ground := Ground.data }, { on := 26, ground := Ground.guard }], guard := some (26, true) }) (v := ?d45_25xv28) rfl (by kernel_rfl) (by kernel_rfl) (by kernel_rfl) (fun _ _ _ h => h) (Or.inl ⟨by rfl, ?d45_25xy28⟩) (by assumption) ?d45_25xr28
        case d45_25xy28 => (intro w hSw; (try dsimp only at hSw); go_simp; try with_reducible rfl)
        (try simp only [Act.put])
        (try simp only [List.setIfInBounds_toArray])
        (try simp only [List.set_cons_succ])
        (try simp only [List.set_cons_zero])
        refine wpAnyH_take (i := 29) (oi := { dst := some 92, op := Op.load 29 (Operand.tmp 5), type := 29, pos := "law.go:77", after := #[{ on := 26, ground := Ground.guard }], guard := some (26, true) }) (v := ?d45_26xv29) rfl (by kernel_rfl) (by kernel_rfl) (by kernel_rfl) (fun _ _ _ h => h) (Or.inl ⟨by rfl, ?d45_26xy29⟩) (by assumption) ?d45_26xr29
        case d45_26xy29 => (intro w hSw; (try dsimp only at hSw); go_simp; try with_reducible rfl)
        (try simp only [Act.put])
        (try simp only [List.setIfInBounds_toArray])
        (try simp only [List.set_cons_succ])
        (try simp only [List.set_cons_zero])
        refine wpAnyH_ready (rs := [30]) (by kernel_rfl) (by simp) ?_
        refine AllReadyH.cons (o := { dst := some 93, op := Op.call { callee := Callee.value (Operand.func 14), args := #[Operand.tmp 92], argTypes := #[29] }, type := 38, pos := "law.go:77", after := #[{ on := 29, ground := Ground.data }, { on := 26, ground := Ground.chain }, { on := 26, ground := Ground.guard }], guard := some (26, true) }) rfl (fun K hK => ?_) AllReadyH.nil
        go_simp
        go_at_call 14
        refine (last_some _ q0 (⟨xa, xb, xc, xd, xm⟩, xp) _ H.out (by omega)).mono ?_
        rintro e v45 ⟨rfl, hb⟩
        have W2' := Lib.hid (W2.out.below (hb))
        have B5' := Lib.hid (B5.out.below (hb))
        have H' := Lib.hid (H.out.below (hb))
        have HI' := Lib.hid (HI.out.below (hb))
        have N' := Lib.hid (N.out.below (hb))
        have BB' := Lib.hid (BB.out.trans ((hb).mono BB.out.size))
        clear W2
        have W2 := W2'
        clear W2'
        clear B5
        have B5 := B5'
        clear B5'
        clear H
        have H := H'
        clear H'
        clear HI
        have HI := HI'
        clear HI'
        clear N
        have N := N'
        clear N'
        clear BB
        have BB := BB'
        clear BB'
        clear hb
        simp only [msgV]
        go_simp
        refine hK.out _ _ ?_ (fun hHeld => ?_)
        · exact ⟨B5.out.cells1.1, W2.out.cell 0, W2.out.cell 1, W2.out.cell 2, N.out.cell 0, N.out.cell 1, N.out.cell 2, N.out.cell 3, N.out.cell 4⟩
        clear hK K
        (try simp only [Act.put])
        (try simp only [List.setIfInBounds_toArray])
        (try simp only [List.set_cons_succ])
        (try simp only [List.set_cons_zero])
        refine wpAnyH_take (i := 31) (oi := { dst := some 94, op := Op.field 38 (Operand.tmp 93) 2, type := 36, pos := "law.go:77", after := #[{ on := 30, ground := Ground.data }, { on := 26, ground := Ground.guard }], guard := some (26, true) }) (v := ?d46_27xv31) rfl (by kernel_rfl) (by kernel_rfl) (by kernel_rfl) (fun _ _ _ h => h) (Or.inl ⟨by rfl, ?d46_27xy31⟩) (by assumption) ?d46_27xr31
        case d46_27xy31 => (intro w hSw; (try dsimp only at hSw); go_simp; try with_reducible rfl)
        (try simp only [Act.put])
        (try simp only [List.setIfInBounds_toArray])
        (try simp only [List.set_cons_succ])
        (try simp only [List.set_cons_zero])
        refine wpAnyH_ready (rs := [32]) (by kernel_rfl) (by simp) ?_
        refine AllReadyH.cons (o := { dst := some 95, op := Op.call { callee := Callee.value (Operand.func 16), args := #[Operand.tmp 91, Operand.tmp 94], argTypes := #[36, 36] }, type := 4, pos := "law.go:77", after := #[{ on := 28, ground := Ground.data }, { on := 31, ground := Ground.data }, { on := 30, ground := Ground.chain }, { on := 26, ground := Ground.guard }], guard := some (26, true) }) rfl (fun K hK => ?_) AllReadyH.nil
        go_simp
        go_at_call 16
        refine (same_any xp xp xm xm _ (H.out.at HX.out) (H.out.at HX.out)).mono ?_
        rintro e v46 ⟨rfl, hb⟩
        have W2' := Lib.hid (W2.out.below (hb))
        have B5' := Lib.hid (B5.out.below (hb))
        have H' := Lib.hid (H.out.below (hb))
        have HI' := Lib.hid (HI.out.below (hb))
        have N' := Lib.hid (N.out.below (hb))
        have BB' := Lib.hid (BB.out.trans ((hb).mono BB.out.size))
        clear W2
        have W2 := W2'
        clear W2'
        clear B5
        have B5 := B5'
        clear B5'
        clear H
        have H := H'
        clear H'
        clear HI
        have HI := HI'
        clear HI'
        clear N
        have N := N'
        clear N'
        clear BB
        have BB := BB'
        clear BB'
        clear hb
        rw [decide_eq_true (rfl : xm = xm)]
        go_simp
        refine hK.out _ _ ?_ (fun hHeld => ?_)
        · exact ⟨B5.out.cells1.1, W2.out.cell 0, W2.out.cell 1, W2.out.cell 2, N.out.cell 0, N.out.cell 1, N.out.cell 2, N.out.cell 3, N.out.cell 4⟩
        clear hK K
        (try simp only [Act.put])
        (try simp only [List.setIfInBounds_toArray])
        (try simp only [List.set_cons_succ])
        (try simp only [List.set_cons_zero])
        refine wpAnyH_take (i := 33) (oi := { dst := some 96, op := Op.pick (Operand.tmp 89) (Operand.tmp 95) (Operand.const (Value.bool false)), type := 4, pos := "law.go:77", after := #[{ on := 26, ground := Ground.data }, { on := 32, ground := Ground.data }], guard := none }) (v := ?d47_28xv33) rfl (by kernel_rfl) (by kernel_rfl) (by kernel_rfl) (fun _ _ _ h => h) (Or.inl ⟨by rfl, ?d47_28xy33⟩) (by assumption) ?d47_28xr33
        case d47_28xy33 => (intro w hSw; (try dsimp only at hSw); go_simp; try with_reducible rfl)
        (try simp only [Act.put])
        (try simp only [List.setIfInBounds_toArray])
        (try simp only [List.set_cons_succ])
        (try simp only [List.set_cons_zero])
        refine wpAnyH_ready (rs := [34]) (by kernel_rfl) (by simp) ?_
        refine AllReadyH.cons (o := { dst := some 4, op := Op.assign (Operand.tmp 96), type := 4, pos := "law.go:77", after := #[{ on := 33, ground := Ground.data }, { on := 32, ground := Ground.chain }, { on := 0, ground := Ground.phase }, { on := 1, ground := Ground.phase }, { on := 2, ground := Ground.phase }, { on := 3, ground := Ground.phase }, { on := 4, ground := Ground.phase }, { on := 5, ground := Ground.phase }, { on := 6, ground := Ground.phase }, { on := 7, ground := Ground.phase }, { on := 8, ground := Ground.phase }, { on := 9, ground := Ground.phase }, { on := 10, ground := Ground.phase }, { on := 11, ground := Ground.phase }, { on := 12, ground := Ground.phase }, { on := 13, ground := Ground.phase }, { on := 14, ground := Ground.phase }, { on := 15, ground := Ground.phase }, { on := 16, ground := Ground.phase }, { on := 17, ground := Ground.phase }, { on := 18, ground := Ground.phase }, { on := 19, ground := Ground.phase }, { on := 20, ground := Ground.phase }, { on := 21, ground := Ground.phase }, { on := 22, ground := Ground.phase }, { on := 23, ground := Ground.phase }, { on := 24, ground := Ground.phase }, { on := 25, ground := Ground.phase }, { on := 26, ground := Ground.phase }, { on := 27, ground := Ground.phase }, { on := 28, ground := Ground.phase }, { on := 29, ground := Ground.phase }, { on := 30, ground := Ground.phase }, { on := 31, ground := Ground.phase }, { on := 32, ground := Ground.phase }, { on := 33, ground := Ground.phase }], guard := none }) rfl (fun K hK => ?_) AllReadyH.nil
        go_simp
        refine hK.out _ _ ?_ (fun hHeld => ?_)
        · exact ⟨B5.out.cells1.1, W2.out.cell 0, W2.out.cell 1, W2.out.cell 2, N.out.cell 0, N.out.cell 1, N.out.cell 2, N.out.cell 3, N.out.cell 4⟩
        clear hK K
        (try simp only [Act.put])
        (try simp only [List.setIfInBounds_toArray])
        (try simp only [List.set_cons_succ])
        (try simp only [List.set_cons_zero])
        refine wpAnyH_done (by kernel_rfl) ?_ _
        have BB2 := BB.out
        go_wp2
        go_ret
        exact ⟨by simp, BB2⟩

set_option maxRecDepth 100000 in
set_option maxHeartbeats 1600000 in
theorem adds (x y z : Int) (v : Value) (l : List One) (w : World) (h : IsOnes w v l) (ho : OnesOk l) (hcap : ∀ a m c, v = .slice a m c → m ≤ c) :
    Calls Try.prog 3 #[.agg #[.int .i64 x, .int .u32 y, .int .u32 z], v] w fun e w' => e = .returned (.bool true) ∧ Below w.heap.size w w' := by
  by_cases hl : 100 < l.length
  · obtain ⟨a, cap, rfl⟩ := h.slice
    clear h ho hcap
    generalize l.length = n at *
    go_enter Try.func3, Try.ntmps3
    go_wp2_with fail
    refine (awake_any _).mono ?_
    rintro e w1 ⟨rfl, hb⟩
    simp only [World.size_alloc] at hb
    have hb2 := (below_new w _).trans (hb.mono (by simp))
    clear hb
    go_wp2
    go_ret
    exact ⟨rfl, hb2⟩
  · exact adds_small x y z v l w h ho (by omega) hcap
end Go.Proofs.Ytfkfomefelekcaa
