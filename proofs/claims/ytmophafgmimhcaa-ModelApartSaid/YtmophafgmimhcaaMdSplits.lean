/- The walk through ModelSplits. -/
import Derived.Test.YtmophafgmimhcaaMdFew
import Derived.Test.YtmophafgmimhcaaMdOutside
import Derived.Test.YtmophafgmimhcaaMdMath
import Derived.Deep.CutBlock
import Derived.Deep.DeepCutAuto
namespace Go.Proofs.Ytmophafgmimhcaa
open Go.ChangeShapes Go.WideShapes Go.ChangeAt Go.RowKit Go.Maps
theorem tmod_nat (t n : Nat) : (t : Int).tmod ((n : Int) + 1) = ((t % (n + 1) : Nat) : Int) := by
  rw [show ((n : Int) + 1) = ((n + 1 : Nat) : Int) by omega]
  rfl
theorem few1 {w : World} {a : Option Addr} {n c : Nat} : SK slE (w.alloc (.cells #[.slice a n c] 30)) (.slice (some ⟨w.heap.size, 0, none⟩) 1 1) [(a, n, c)] :=
  SK.ofBox (E := slE) (Box.new w _ 30 rfl) rfl rfl (Nat.le_refl _)
theorem ES.tail {W : World} {b off n vc k : Nat} {L : List En} (h : ES W (.slice (some ⟨b, off, none⟩) n vc) L) (hn : L.length = n) (hk : k ≤ n) (hc : n ≤ vc) : ES W (.slice (if vc = k then some ⟨b, off, none⟩ else some ⟨b, off + k * 6, none⟩) (n - k) (vc - k)) (L.drop k) := by
  by_cases e : vc = k
  · have e1 : n - k = 0 := by omega
    rw [List.drop_of_length_le (by omega), e1]
    exact SK.nil _ _ _
  · rw [if_neg e]
    have := h.part k n (vc - k) hk (Nat.le_refl _) (by omega)
    rw [List.take_of_length_le (by omega)] at this
    exact this
set_option maxRecDepth 100000 in
set_option maxHeartbeats 3200000 in
theorem splits_walk (wv v : Value) (t : Nat) (M : List Wd) (L : List En) (w : World) (hm : WS w wv M) (hv : ES w v L) (_ : ∀ x ∈ M, OkW x) (ho : ∀ x ∈ L, OkE x) (_ : M.length ≤ maxLen) (_ : L.length ≤ maxLen) (ht : (Lit.int .u8 (t : Int)).wf = true) : Calls Try.prog 7 #[wv, v, .int .u8 t] w (Good w) := by
  have HM := Lib.hid hm
  have HV := Lib.hid hv
  have OK := Lib.hid ho
  have hb8 := bounds_u8 ht
  obtain ⟨va, vc, rfl, hcap⟩ := hv.form
  obtain ⟨ma, mc, rfl, _⟩ := hm.form
  clear hm hv ho ht
  obtain ⟨n, hn⟩ : ∃ n, L.length = n := ⟨_, rfl⟩
  obtain ⟨mn, hmn⟩ : ∃ n, M.length = n := ⟨_, rfl⟩
  rw [hn] at HV hcap ⊢
  rw [hmn] at HM ⊢
  have HN := Lib.hid hn
  have HMN := Lib.hid hmn
  clear hn hmn
  have FW := Lib.hid (few_any _ M _ [(va, n, vc)] _ (HM.out.below (below1 w (.cells #[.slice va n vc] 30))) few1 (by simp [maxLen]))
  rw [HMN.out] at FW
  have BB := Lib.hid (below1 w (.cells #[.slice va n vc] 30))
  go_enter Try.func7, Try.ntmps7
  go_wp2_with fail
  refine FW.out.mono ?_
  rintro e w1 ⟨b, rfl, hb, hsm⟩
  replace BB := Lib.hid (BB.out.trans (hb.mono BB.out.size))
  clear hb FW
  cases b with
  | false =>
    go_wp2_with fail
    refine (awake_any w1).mono ?_
    rintro e w2 ⟨rfl, hb⟩
    replace BB := Lib.hid (BB.out.trans (hb.mono BB.out.size))
    clear hb
    go_wp2_with fail
    go_ret
    exact ⟨rfl, BB.out⟩
  | true =>
    obtain ⟨s1, _, s2⟩ := hsm rfl
    have hn12 : n ≤ 12 := s2 0 (by simp)
    clear hsm s2
    go_wp2_with fail
    refine (new_any _ M w1 (HM.out.below BB.out) (by rw [HMN.out]; omega)).mono ?_
    rintro e w2 ⟨u, rfl, hu, hb⟩
    obtain ⟨ua, uc, rfl, _⟩ := hu.form
    rw [bare_len, HMN.out] at hu ⊢
    replace BB := Lib.hid (BB.out.trans (hb.mono BB.out.size))
    have U := Lib.hid hu
    have UL := Lib.hid (bare_len M)
    rw [HMN.out] at UL
    obtain ⟨X, hX⟩ : ∃ X, bare M = X := ⟨_, rfl⟩
    rw [hX] at U UL
    clear hu hb hX
    go_upto_region 4 with fail
    have Z := Lib.hid (Box.new w2 #[.slice ua mn uc] 27 rfl)
    replace U := Lib.hid (U.out.below (below1 w2 (.cells #[.slice ua mn uc] 27)))
    replace BB := Lib.hid (BB.out.alloc BB.out.size (.cells #[.slice ua mn uc] 27))
    generalize w2.alloc (.cells #[.slice ua mn uc] 27) = W3 at *
    generalize w2.heap.size = z at *
    have hmod := tmod_nat t n
    obtain ⟨k, hk⟩ : ∃ k, t % (n + 1) = k := ⟨_, rfl⟩
    have hkn : k ≤ n := by have := Nat.mod_lt t (show 0 < n + 1 by omega); omega
    rw [hk] at hmod
    clear hk
    have hw1 : IntKind.i64.wrap (k : Int) = (k : Int) := IntWalk.i64_in _ (by omega)
    have hne : ((n : Int) + 1 == 0) = false := by rw [beq_eq_false_iff_ne]; omega
    go_upto_region 5 with fail
    have ZK := Lib.hid (fun W (h : Below W3.heap.size W3 W) => show W.cell? ⟨z, 0, none⟩ = some (.slice ua mn uc) from (Z.out.below h).cell 0)
    have HC := Lib.hid (holds_cut X L k)
    have V3 := Lib.hid (HV.out.below BB.out)
    have SW := Lib.hid (fun W (h : Below W3.heap.size W3 W) => swap_any _ X _ L W (U.out.below h) (V3.out.below h) (by rw [HN.out]; omega) (by rw [UL.out]; omega))
    have AF := Lib.hid (fun i (hi : i < n) => holds_after X L L[i]! (mem_at (by rw [HN.out]; exact hi)) (OK.out _ (mem_at (by rw [HN.out]; exact hi))).2.1.2.1)
    have k0 : (0 : Int) ≤ (k : Int) := by omega
    have k1 : (k : Int) ≤ (n : Int) := by omega
    have k2 : (k : Int) ≤ (vc : Int) := by omega
    have k3 : k ≤ vc := by omega
    have k4 : (n : Int) ≤ (vc : Int) := by omega
    by_cases hn0 : n = 0
    · obtain rfl : k = 0 := by omega
      subst hn0
      obtain rfl := List.length_eq_zero_iff.1 HN.out
      have H1 := Lib.hid (fun W (h : Below W3.heap.size W3 W) a c => holds_any _ X (.slice a 0 c) [] W (U.out.below h) (SK.nil _ _ _) (by simp))
      rw [holds_nil] at H1
      have Q := Lib.hid ((Below.refl W3.heap.size W3).drew)
      go_region_held3 (fun wz => wz.cell? ⟨z, 0, none⟩ = some (.slice ua mn uc)) (first | exact ZK.out _ Q.out | exact ZK.out _ (Below.refl _ _))
        (first
          | (go_at_call 13; (with_reducible refine (H1.out _ Q.out _ _).mono ?_); rintro e w5 ⟨rfl, hb5⟩; have Q2 := Lib.hid (Q.out.trans (hb5.mono Q.out.size)); clear hb5 Q; have Q := Q2; clear Q2))
      have z0 := ZK.out _ Q.out
      go_wp2_with fail
      refine (SW.out w5 Q.out).mono ?_
      rw [show swp X [] = (X, false, 8) from rfl]
      rintro e w6 ⟨v6, rfl, hv6, hb⟩
      obtain ⟨va6, vc6, rfl, _⟩ := hv6.form
      have Q7 := Lib.hid (((BB.out.trans (Q.out.mono BB.out.size)).trans (hb.mono (Nat.le_trans BB.out.size Q.out.size))).alloc (Nat.le_trans (Nat.le_trans BB.out.size Q.out.size) hb.size) (.cells #[.slice va6 X.length vc6] 27))
      clear hv6 hb z0
      go_wp2_with fail
      refine (awake_any _).mono ?_
      rintro e w7 ⟨rfl, hb⟩
      replace Q7 := Lib.hid (Q7.out.trans (hb.mono Q7.out.size))
      clear hb
      go_wp2_with fail
      go_ret
      exact ⟨rfl, Q7.out⟩
    · obtain ⟨b, off, rfl, hbl, hln, hc⟩ := V3.out.addr (k := 0) (by omega)
      have H1 := Lib.hid (fun W (h : Below W3.heap.size W3 W) => holds_any _ X _ L W (U.out.below h) (V3.out.below h) (by rw [HN.out]; omega))
      have H2 := Lib.hid (fun W (h : Below W3.heap.size W3 W) => holds_any _ X (.slice (some ⟨b, off, none⟩) k vc) (L.take k) W (U.out.below h) (by simpa using (V3.out.below h).part 0 k vc (Nat.zero_le _) (by omega) (by omega)) (by simp; omega))
      have H3 := Lib.hid (fun W (h : Below W3.heap.size W3 W) => holds_any _ X (.slice (if vc = k then some ⟨b, off, none⟩ else some ⟨b, off + k * 6, none⟩) (n - k) (vc - k)) (L.drop k) W (U.out.below h) (ES.tail (V3.out.below h) HN.out hkn hcap) (by simp; omega))
      clear hc hln
      obtain ⟨r1, hr1⟩ : ∃ r, holds X L = r := ⟨_, rfl⟩
      obtain ⟨r2, hr2⟩ : ∃ r, holds X (L.take k) = r := ⟨_, rfl⟩
      obtain ⟨r3, hr3⟩ : ∃ r, holds X (L.drop k) = r := ⟨_, rfl⟩
      rw [hr1, hr2, hr3] at HC
      rw [hr1] at H1
      rw [hr2] at H2
      rw [hr3] at H3
      have hc := HC.out
      subst hc
      have HR3 := Lib.hid hr3
      clear hr1 hr2 hr3 HC
      have TL : ∀ (F : Unit), True := fun _ => trivial
      clear TL
      have Q := Lib.hid ((Below.refl W3.heap.size W3).drew)
      go_cut [43] (fun s43 W0 => s43 = .bool false ∧ Below W3.heap.size W3 W0)
      case first =>
        cases r2 with
        | false =>
          rw [Bool.false_and] at H1
          refine wp_region_held_drew (S := fun w' => w'.cell? ⟨z, 0, none⟩ = some (.slice ua mn uc)) (by kernel_rfl) (ZK.out _ Q.out) (fun hHeld => ?_)
          generalize World.drew W3 = V0 at *
          refine wpAnyH_take (i := 0) (oi := { dst := some 28, op := Op.load 27 (Operand.tmp 7), type := 27, pos := "law.go:130", after := #[], guard := none }) (v := ?d1_1xv0) rfl (by kernel_rfl) (by kernel_rfl) (by kernel_rfl) (fun _ _ _ h => h) (Or.inl ⟨by rfl, ?d1_1xy0⟩) (by assumption) ?d1_1xr0
          case d1_1xy0 => (intro w hSw; (try dsimp only at hSw); go_simp; try with_reducible rfl)
          (try simp only [Act.put])
          (try simp only [List.setIfInBounds_toArray])
          (try simp only [List.set_cons_succ])
          (try simp only [List.set_cons_zero])
          refine wpAnyH_take (i := 1) (oi := { dst := some 29, op := Op.move (Operand.tmp 1), type := 30, pos := "law.go:130", after := #[], guard := none }) (v := ?d1_2xv1) rfl (by kernel_rfl) (by kernel_rfl) (by kernel_rfl) (fun _ _ _ h => h) (Or.inl ⟨by rfl, ?d1_2xy1⟩) (by assumption) ?d1_2xr1
          case d1_2xy1 => (intro w hSw; (try dsimp only at hSw); go_simp; try with_reducible rfl)
          (try simp only [Act.put])
          (try simp only [List.setIfInBounds_toArray])
          (try simp only [List.set_cons_succ])
          (try simp only [List.set_cons_zero])
          refine wpAnyH_take (i := 3) (oi := { dst := some 31, op := Op.load 27 (Operand.tmp 7), type := 27, pos := "law.go:130", after := #[], guard := none }) (v := ?d1_3xv3) rfl (by kernel_rfl) (by kernel_rfl) (by kernel_rfl) (fun _ _ _ h => h) (Or.inl ⟨by rfl, ?d1_3xy3⟩) (by assumption) ?d1_3xr3
          case d1_3xy3 => (intro w hSw; (try dsimp only at hSw); go_simp; try with_reducible rfl)
          (try simp only [Act.put])
          (try simp only [List.setIfInBounds_toArray])
          (try simp only [List.set_cons_succ])
          (try simp only [List.set_cons_zero])
          refine wpAnyH_take (i := 4) (oi := { dst := some 32, op := Op.move (Operand.tmp 1), type := 30, pos := "law.go:130", after := #[], guard := none }) (v := ?d1_4xv4) rfl (by kernel_rfl) (by kernel_rfl) (by kernel_rfl) (fun _ _ _ h => h) (Or.inl ⟨by rfl, ?d1_4xy4⟩) (by assumption) ?d1_4xr4
          case d1_4xy4 => (intro w hSw; (try dsimp only at hSw); go_simp; try with_reducible rfl)
          (try simp only [Act.put])
          (try simp only [List.setIfInBounds_toArray])
          (try simp only [List.set_cons_succ])
          (try simp only [List.set_cons_zero])
          refine wpAnyH_take (i := 5) (oi := { dst := some 33, op := Op.move (Operand.tmp 8), type := 3, pos := "law.go:130", after := #[], guard := none }) (v := ?d1_5xv5) rfl (by kernel_rfl) (by kernel_rfl) (by kernel_rfl) (fun _ _ _ h => h) (Or.inl ⟨by rfl, ?d1_5xy5⟩) (by assumption) ?d1_5xr5
          case d1_5xy5 => (intro w hSw; (try dsimp only at hSw); go_simp; try with_reducible rfl)
          (try simp only [Act.put])
          (try simp only [List.setIfInBounds_toArray])
          (try simp only [List.set_cons_succ])
          (try simp only [List.set_cons_zero])
          refine wpAnyH_take (i := 6) (oi := { dst := some 34, op := Op.slice 30 (Operand.tmp 32) none (some (Operand.tmp 33)) none, type := 30, pos := "law.go:130", after := #[{ on := 4, ground := Ground.data }, { on := 5, ground := Ground.data }], guard := none }) (v := ?d1_6xv6) rfl (by kernel_rfl) (by kernel_rfl) (by kernel_rfl) (fun _ _ _ h => h) (Or.inl ⟨by rfl, ?d1_6xy6⟩) (by assumption) ?d1_6xr6
          case d1_6xy6 => (intro w hSw; (try dsimp only at hSw); go_simp; try with_reducible rfl)
          (try simp only [Act.put])
          (try simp only [List.setIfInBounds_toArray])
          (try simp only [List.set_cons_succ])
          (try simp only [List.set_cons_zero])
          refine wpAnyH_ready (rs := [2]) (by kernel_rfl) (by simp) ?_
          refine AllReadyH.cons (o := { dst := some 30, op := Op.call { callee := Callee.value (Operand.func 13), args := #[Operand.tmp 28, Operand.tmp 29], argTypes := #[27, 30] }, type := 4, pos := "law.go:130", after := #[{ on := 0, ground := Ground.data }, { on := 1, ground := Ground.data }], guard := none }) rfl (fun K hK => ?_) AllReadyH.nil
          go_simp
          go_at_call 13
          refine (H1.out _ Q.out).mono ?_
          rintro e v1 ⟨rfl, hb5⟩
          replace Q := Lib.hid (Q.out.trans (hb5.mono Q.out.size))
          clear hb5
          go_simp
          refine hK.out _ _ ?_ (fun hHeld => ?_)
          · exact (ZK.out _ Q.out)
          clear hK K
          (try simp only [Act.put])
          (try simp only [List.setIfInBounds_toArray])
          (try simp only [List.set_cons_succ])
          (try simp only [List.set_cons_zero])
          refine wpAnyH_ready (rs := [7]) (by kernel_rfl) (by simp) ?_
          refine AllReadyH.cons (o := { dst := some 35, op := Op.call { callee := Callee.value (Operand.func 13), args := #[Operand.tmp 31, Operand.tmp 34], argTypes := #[27, 30] }, type := 4, pos := "law.go:130", after := #[{ on := 3, ground := Ground.data }, { on := 6, ground := Ground.data }, { on := 2, ground := Ground.chain }], guard := none }) rfl (fun K hK => ?_) AllReadyH.nil
          go_simp
          go_at_call 13
          refine (H2.out _ Q.out).mono ?_
          rintro e v2 ⟨rfl, hb5⟩
          replace Q := Lib.hid (Q.out.trans (hb5.mono Q.out.size))
          clear hb5
          go_simp
          refine hK.out _ _ ?_ (fun hHeld => ?_)
          · exact (ZK.out _ Q.out)
          clear hK K
          (try simp only [Act.put])
          (try simp only [List.setIfInBounds_toArray])
          (try simp only [List.set_cons_succ])
          (try simp only [List.set_cons_zero])
          refine wpAnyH_take (i := 8) (oi := { dst := some 36, op := Op.move (Operand.tmp 35), type := 4, pos := "law.go:130", after := #[{ on := 7, ground := Ground.data }, { on := 7, ground := Ground.chain }], guard := none }) (v := ?d3_7xv8) rfl (by kernel_rfl) (by kernel_rfl) (by kernel_rfl) (fun _ _ _ h => h) (Or.inl ⟨by rfl, ?d3_7xy8⟩) (by assumption) ?d3_7xr8
          case d3_7xy8 => (intro w hSw; (try dsimp only at hSw); go_simp; try with_reducible rfl)
          (try simp only [Act.put])
          (try simp only [List.setIfInBounds_toArray])
          (try simp only [List.set_cons_succ])
          (try simp only [List.set_cons_zero])
          refine wpAnyH_take (i := 9) (oi := { dst := some 37, op := Op.load 27 (Operand.tmp 7), type := 27, pos := "law.go:130", after := #[{ on := 8, ground := Ground.guard }], guard := some (8, true) }) (v := undef) rfl (by kernel_rfl) (by kernel_rfl) (by kernel_rfl) (fun _ _ _ h => h) (Or.inr ⟨by kernel_rfl, rfl⟩) (by assumption) ?d3_8xr9
          (try simp only [Act.put])
          (try simp only [List.setIfInBounds_toArray])
          (try simp only [List.set_cons_succ])
          (try simp only [List.set_cons_zero])
          refine wpAnyH_take (i := 10) (oi := { dst := some 38, op := Op.move (Operand.tmp 1), type := 30, pos := "law.go:130", after := #[{ on := 8, ground := Ground.guard }], guard := some (8, true) }) (v := undef) rfl (by kernel_rfl) (by kernel_rfl) (by kernel_rfl) (fun _ _ _ h => h) (Or.inr ⟨by kernel_rfl, rfl⟩) (by assumption) ?d3_9xr10
          (try simp only [Act.put])
          (try simp only [List.setIfInBounds_toArray])
          (try simp only [List.set_cons_succ])
          (try simp only [List.set_cons_zero])
          refine wpAnyH_take (i := 11) (oi := { dst := some 39, op := Op.move (Operand.tmp 8), type := 3, pos := "law.go:130", after := #[{ on := 8, ground := Ground.guard }], guard := some (8, true) }) (v := undef) rfl (by kernel_rfl) (by kernel_rfl) (by kernel_rfl) (fun _ _ _ h => h) (Or.inr ⟨by kernel_rfl, rfl⟩) (by assumption) ?d3_10xr11
          (try simp only [Act.put])
          (try simp only [List.setIfInBounds_toArray])
          (try simp only [List.set_cons_succ])
          (try simp only [List.set_cons_zero])
          refine wpAnyH_take (i := 12) (oi := { dst := some 40, op := Op.slice 30 (Operand.tmp 38) (some (Operand.tmp 39)) none none, type := 30, pos := "law.go:130", after := #[{ on := 10, ground := Ground.data }, { on := 11, ground := Ground.data }, { on := 8, ground := Ground.guard }], guard := some (8, true) }) (v := undef) rfl (by kernel_rfl) (by kernel_rfl) (by kernel_rfl) (fun _ _ _ h => h) (Or.inr ⟨by kernel_rfl, rfl⟩) (by assumption) ?d3_11xr12
          (try simp only [Act.put])
          (try simp only [List.setIfInBounds_toArray])
          (try simp only [List.set_cons_succ])
          (try simp only [List.set_cons_zero])
          refine wpAnyH_take (i := 13) (oi := { dst := some 41, op := Op.call { callee := Callee.value (Operand.func 13), args := #[Operand.tmp 37, Operand.tmp 40], argTypes := #[27, 30] }, type := 4, pos := "law.go:130", after := #[{ on := 9, ground := Ground.data }, { on := 12, ground := Ground.data }, { on := 8, ground := Ground.chain }, { on := 8, ground := Ground.guard }], guard := some (8, true) }) (v := undef) rfl (by kernel_rfl) (by kernel_rfl) (by kernel_rfl) (fun _ _ _ h => h) (Or.inr ⟨by kernel_rfl, rfl⟩) (by assumption) ?d3_12xr13
          (try simp only [Act.put])
          (try simp only [List.setIfInBounds_toArray])
          (try simp only [List.set_cons_succ])
          (try simp only [List.set_cons_zero])
          refine wpAnyH_take (i := 14) (oi := { dst := some 42, op := Op.pick (Operand.tmp 36) (Operand.tmp 41) (Operand.const (Value.bool false)), type := 4, pos := "law.go:130", after := #[{ on := 8, ground := Ground.data }, { on := 13, ground := Ground.data }], guard := none }) (v := ?d3_13xv14) rfl (by kernel_rfl) (by kernel_rfl) (by kernel_rfl) (fun _ _ _ h => h) (Or.inl ⟨by rfl, ?d3_13xy14⟩) (by assumption) ?d3_13xr14
          case d3_13xy14 => (intro w hSw; (try dsimp only at hSw); go_simp; try with_reducible rfl)
          (try simp only [Act.put])
          (try simp only [List.setIfInBounds_toArray])
          (try simp only [List.set_cons_succ])
          (try simp only [List.set_cons_zero])
          refine wpAnyH_take (i := 15) (oi := { dst := some 43, op := Op.binOp BinOp.neq 4 (Operand.tmp 30) (Operand.tmp 42) 4, type := 4, pos := "law.go:130", after := #[{ on := 2, ground := Ground.data }, { on := 14, ground := Ground.data }], guard := none }) (v := ?d3_14xv15) rfl (by kernel_rfl) (by kernel_rfl) (by kernel_rfl) (fun _ _ _ h => h) (Or.inl ⟨by rfl, ?d3_14xy15⟩) (by assumption) ?d3_14xr15
          case d3_14xy15 => (intro w hSw; (try dsimp only at hSw); go_simp; try with_reducible rfl)
          (try simp only [Act.put])
          (try simp only [List.setIfInBounds_toArray])
          (try simp only [List.set_cons_succ])
          (try simp only [List.set_cons_zero])
          refine wpAnyH_done (by kernel_rfl) ?_ _
          clear hHeld
          go_wp2
          go_meet
          case rel => exact ⟨rfl, Q.out⟩
        | true =>
          rw [Bool.true_and] at H1
          by_cases hvk : vc = k
          · have hnk : n = k := by omega
            subst hvk
            subst hnk
            have hnil : L.drop n = [] := List.drop_of_length_le (by rw [HN.out]; exact Nat.le_refl _)
            have H3a := Lib.hid (fun W (h : Below W3.heap.size W3 W) => show Calls Try.prog 13 #[.agg #[.slice ua mn uc], .slice (some ⟨b, off, none⟩) 0 0] W fun e w' => e = .returned (.bool r3) ∧ Below W.heap.size W w' from by have := H3.out W h; rw [if_pos rfl, Nat.sub_self] at this; exact this)
            have hr3 : r3 = true := by rw [← HR3.out, hnil, holds_nil]
            subst hr3
            clear H3 hnil
            skip
            · go_region_held3 (fun wz => wz.cell? ⟨z, 0, none⟩ = some (.slice ua mn uc)) (first | exact ZK.out _ Q.out | exact ZK.out _ (Below.refl _ _))
                (first
                  | (go_at_call 13; (with_reducible refine (H1.out _ Q.out).mono ?_); rintro e w5 ⟨rfl, hb5⟩; have Q2 := Lib.hid (Q.out.trans (hb5.mono Q.out.size)); clear hb5 Q; have Q := Q2; clear Q2)
                  | (go_at_call 13; (with_reducible refine (H2.out _ Q.out).mono ?_); rintro e w5 ⟨rfl, hb5⟩; have Q2 := Lib.hid (Q.out.trans (hb5.mono Q.out.size)); clear hb5 Q; have Q := Q2; clear Q2)
                  | (go_at_call 13; (with_reducible refine (H3a.out _ Q.out).mono ?_); rintro e w5 ⟨rfl, hb5⟩; have Q2 := Lib.hid (Q.out.trans (hb5.mono Q.out.size)); clear hb5 Q; have Q := Q2; clear Q2))
              go_wp2
              go_meet
              case rel => exact ⟨rfl, Q.out⟩
          · have hvk2 : ¬ vc = k := hvk
            rw [if_neg hvk] at H3
            cases r3 <;>
            · go_region_held3 (fun wz => wz.cell? ⟨z, 0, none⟩ = some (.slice ua mn uc)) (first | exact ZK.out _ Q.out | exact ZK.out _ (Below.refl _ _))
                (first
                  | (go_at_call 13; (with_reducible refine (H1.out _ Q.out).mono ?_); rintro e w5 ⟨rfl, hb5⟩; have Q2 := Lib.hid (Q.out.trans (hb5.mono Q.out.size)); clear hb5 Q; have Q := Q2; clear Q2)
                  | (go_at_call 13; (with_reducible refine (H2.out _ Q.out).mono ?_); rintro e w5 ⟨rfl, hb5⟩; have Q2 := Lib.hid (Q.out.trans (hb5.mono Q.out.size)); clear hb5 Q; have Q := Q2; clear Q2)
                  | (go_at_call 13; (with_reducible refine (H3.out _ Q.out).mono ?_); rintro e w5 ⟨rfl, hb5⟩; have Q2 := Lib.hid (Q.out.trans (hb5.mono Q.out.size)); clear hb5 Q; have Q := Q2; clear Q2))
              go_wp2
              go_meet
              case rel => exact ⟨rfl, Q.out⟩
      case rest =>
        obtain ⟨rfl, hbc⟩ := hcut
        replace Q := Lib.hid hbc
        clear hbc H1 H2 H3 HR3
        have z0 := ZK.out wc Q.out
        go_wp2_with fail
        refine (SW.out wc Q.out).mono ?_
        rintro e w6 ⟨v6, rfl, hv6, hb⟩
        obtain ⟨R, hR⟩ : ∃ R, swp X L = R := ⟨_, rfl⟩
        rw [hR] at hv6 ⊢
        obtain ⟨R, ok, c⟩ := R
        simp only at hv6 ⊢
        obtain ⟨va6, vc6, rfl, _⟩ := hv6.form
        have HR := Lib.hid hR
        obtain ⟨rn, hrn⟩ : ∃ n, R.length = n := ⟨_, rfl⟩
        rw [hrn] at hv6 ⊢
        have V6 := Lib.hid hv6
        have B3 := Lib.hid (Q.out.trans (hb.mono Q.out.size))
        clear hv6 hb hR z0 SW ZK Q U hrn
        go_upto_region 8 with fail
        have Y := Lib.hid (Box.new w6 #[.slice va6 rn vc6] 27 rfl)
        replace V6 := Lib.hid (V6.out.below (below1 w6 (.cells #[.slice va6 rn vc6] 27)))
        replace B3 := Lib.hid (B3.out.alloc B3.out.size (.cells #[.slice va6 rn vc6] 27))
        replace BB := Lib.hid (BB.out.trans (B3.out.mono BB.out.size))
        generalize w6.alloc (.cells #[.slice va6 rn vc6] 27) = W7 at *
        generalize w6.heap.size = y at *
        by_cases hc0 : c = 0
        · subst hc0
          cases ok with
          | false =>
            go_wp2_with fail
            refine (awake_any _).mono ?_
            rintro e w9 ⟨rfl, hb⟩
            replace BB := Lib.hid (BB.out.trans (hb.mono BB.out.size))
            clear hb
            go_wp2_with fail
            go_ret
            exact ⟨rfl, BB.out⟩
          | true =>
            have HH : Hid (chkM X L = 0 ∧ holds X L = true ∧ R = upd X L) := Lib.hid (by
              have := HR.out
              unfold swp at this
              by_cases h1 : chkM X L = 0
              · by_cases h2 : holds X L = true
                · rw [if_neg (by simpa using h1), if_pos h2] at this
                  injection this with e1 _
                  exact ⟨h1, h2, e1.symm⟩
                · rw [if_neg (by simpa using h1), if_neg h2] at this
                  simp at this
              · rw [if_pos (by simpa using h1)] at this
                simp at this)
            obtain ⟨h1, h2, h3⟩ := HH.out
            subst h3
            replace AF := Lib.hid (fun i hi => AF.out i hi h1 h2)
            clear h1 h2 HH HR
            go_wp2_with fail
            go_loopw [60] (fun iv wr => ∃ k : Nat, k ≤ n ∧ iv = .int .i64 k ∧ Below W7.heap.size W7 wr) (fun iv _ => n - (intOf iv).toNat)
            case atStart => exact ⟨0, by omega, rfl, Below.refl _ _⟩
            case round =>
              obtain ⟨i, hi, rfl, hb⟩ := hrel
              have B7 := Lib.hid hb
              clear hb
              by_cases hlt : i < n
              · obtain ⟨b3, off3, e3, _, hln3, hc3⟩ := V3.out.addr hlt
                injection e3 with e3
                injection e3 with e3 e4
                subst e3 e4
                obtain ⟨d0, d1, d2, d3, d4, d5⟩ := en_cells hc3 (by rw [hln3]; exact hlt)
                have BA := Lib.hid (B3.out.trans (B7.out.mono B3.out.size))
                rw [← BA.out.cell (p := ⟨b, _, none⟩) hbl] at d0 d1 d2 d3 d4 d5
                have AFI := Lib.hid (AF.out i hlt)
                clear hc3 hln3
                obtain ⟨x, hx⟩ : ∃ x, L[i]! = x := ⟨_, rfl⟩
                rw [hx] at d0 d1 d2 d3 d4 d5 AFI
                clear hx
                obtain ⟨x0, ⟨x1, x2, x3⟩, x4, x5⟩ := x
                simp only at d0 d1 d2 d3 d4 d5 AFI
                go_upto_region 13 with fail
                have E := Lib.hid (Box.new wr #[.int .i64 x0, .int .i64 x1, .int .u32 x2, .int .u32 x3, .int .i64 x4, .bool x5] 50 rfl)
                replace B7 := Lib.hid (B7.out.alloc B7.out.size (.cells #[.int .i64 x0, .int .i64 x1, .int .u32 x2, .int .u32 x3, .int .i64 x4, .bool x5] 50))
                generalize wr.alloc (.cells #[.int .i64 x0, .int .i64 x1, .int .u32 x2, .int .u32 x3, .int .i64 x4, .bool x5] 50) = W8 at *
                generalize wr.heap.size = p at *
                clear d0 d1 d2 d3 d4 d5 BA
                have KS : Hid (∀ W, Below W8.heap.size W8 W → W.cell? ⟨y, 0, none⟩ = some (.slice va6 rn vc6) ∧ W.cell? ⟨p, 0, none⟩ = some (.int .i64 x0) ∧ W.cell? ⟨p, 1, none⟩ = some (.int .i64 x1) ∧ W.cell? ⟨p, 2, none⟩ = some (.int .u32 x2) ∧ W.cell? ⟨p, 3, none⟩ = some (.int .u32 x3) ∧ W.cell? ⟨p, 4, none⟩ = some (.int .i64 x4) ∧ W.cell? ⟨p, 5, none⟩ = some (.bool x5)) := Lib.hid (fun W h => ⟨((Y.out.below B7.out).below h).cell 0, (E.out.below h).cell 0, (E.out.below h).cell 1, (E.out.below h).cell 2, (E.out.below h).cell 3, (E.out.below h).cell 4, (E.out.below h).cell 5⟩)
                have RW := Lib.hid (fun W (h : Below W8.heap.size W8 W) => V6.out.below (B7.out.trans (h.mono B7.out.size)))
                have P0 := Lib.hid ((Below.refl W8.heap.size W8).drew)
                have P1 := Lib.hid (((Below.refl W8.heap.size W8).alloc (Nat.le_refl _) (.cells #[.int .i64 x0, .int .i64 x1, .int .u32 x2, .int .u32 x3, .int .i64 x4, .bool x5] 50)).drew)
                have SX : Hid (ES (W8.alloc (.cells #[.int .i64 x0, .int .i64 x1, .int .u32 x2, .int .u32 x3, .int .i64 x4, .bool x5] 50)).drew (.slice (some ⟨W8.heap.size, 0, none⟩) 1 1) [(x0, (x1, x2, x3), x4, x5)]) := Lib.hid (SK.below (SK.ofBox (E := enE) (Box.new W8 #[.int .i64 x0, .int .i64 x1, .int .u32 x2, .int .u32 x3, .int .i64 x4, .bool x5] 50 rfl) rfl rfl (Nat.le_refl _)) (Below.refl _ _).drew)
                go_region_held3 (fun wz => wz.cell? ⟨y, 0, none⟩ = some (.slice va6 rn vc6) ∧ wz.cell? ⟨p, 0, none⟩ = some (.int .i64 x0) ∧ wz.cell? ⟨p, 1, none⟩ = some (.int .i64 x1) ∧ wz.cell? ⟨p, 2, none⟩ = some (.int .u32 x2) ∧ wz.cell? ⟨p, 3, none⟩ = some (.int .u32 x3) ∧ wz.cell? ⟨p, 4, none⟩ = some (.int .i64 x4) ∧ wz.cell? ⟨p, 5, none⟩ = some (.bool x5))
                  (first | exact KS.out _ P2.out | exact KS.out _ P1.out | exact KS.out _ P0.out | exact KS.out _ (Below.refl _ _))
                  (first
                    | (go_at_call 13; (with_reducible refine (holds_any _ (upd X L) _ [(x0, (x1, x2, x3), x4, x5)] _ (RW.out _ P1.out) SX.out (by simp)).mono ?_); rintro e w9 ⟨rfl, hb9⟩; have P2 := Lib.hid (P1.out.trans (hb9.mono P1.out.size)); clear hb9))
                have AFX : Hid (holds (upd X L) [(x0, (x1, x2, x3), x4, x5)] = !x5) := Lib.hid (by unfold holds; rw [List.all_cons, List.all_nil, Bool.and_true]; exact AFI.out)
                rw [AFX.out]
                clear KS RW SX AFI AFX E
                cases x5 <;>
                · go_wp2_with fail
                  go_roundw
                  case rel => exact ⟨i + 1, by omega, by go_num, B7.out.trans (P2.out.mono B7.out.size)⟩
                  case measure => simp [intOf]; omega
              · obtain rfl : i = n := by omega
                replace BB := Lib.hid (BB.out.trans (B7.out.mono BB.out.size))
                go_wp2_with fail
                refine (awake_any _).mono ?_
                rintro e w9 ⟨rfl, hb⟩
                replace BB := Lib.hid (BB.out.trans (hb.mono BB.out.size))
                clear hb
                go_wp2_with fail
                go_ret
                exact ⟨rfl, BB.out⟩
        · have hc1 : (c != 0) = true := by rw [bne_iff_ne]; exact hc0
          go_wp2_with fail
          refine (awake_any _).mono ?_
          rintro e w9 ⟨rfl, hb⟩
          replace BB := Lib.hid (BB.out.trans (hb.mono BB.out.size))
          clear hb
          go_wp2_with fail
          go_ret
          exact ⟨rfl, BB.out⟩
end Go.Proofs.Ytmophafgmimhcaa
