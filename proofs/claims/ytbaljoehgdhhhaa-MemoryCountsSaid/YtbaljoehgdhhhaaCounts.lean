/- MemoryCounts: the walk. -/
import Derived.Test.YtbaljoehgdhhhaaCountsK
namespace Go.Proofs.Ytbaljoehgdhhhaa
open Go.RowKit Go.Shelf Go.Maps
set_option linter.unusedVariables false
set_option linter.unusedSimpArgs false
set_option maxRecDepth 100000 in
set_option maxHeartbeats 12800000 in
theorem counts_short (v : Value) (l : List Int) (t p : Nat) (w : World) (hv : U8s w v l) (hl : l.length ≤ 80) (hp : p < 3) (ht : t < 256) (htp : (t : Int).tmod 3 = p) : Calls Try.prog 7 #[v, .int .u8 t] w fun e w' => e = .returned (.bool true) ∧ Below w.heap.size w w' := by
  obtain ⟨a, cap, rfl, hc⟩ := hv
  have HC := Lib.hid hc
  obtain ⟨n1, hn1⟩ : ∃ n, l.length = n := ⟨_, rfl⟩
  have HN := Lib.hid hn1
  rw [hn1] at hl ⊢
  clear hc hn1
  have h1 : ¬ (80 : Int) < n1 := by omega
  have htp2 : (t : Int) % 3 = p := by rw [← htp, Int.tmod_eq_emod_of_nonneg (by omega)]
  go_enter Try.func7, Try.ntmps7
  go_wp2_with fail
  refine (awake_any _).mono ?_
  rintro e w1 ⟨rfl, hb⟩
  have BB := Lib.hid hb
  clear hb
  go_wp2_with fail
  refine (word_any 0 _).mono ?_
  rintro e w2 ⟨rfl, hb⟩
  replace BB := Lib.hid (BB.out.trans (hb.mono BB.out.size))
  clear hb
  go_wp2_with fail
  refine (word_any 0 _).mono ?_
  rintro e w3 ⟨rfl, hb⟩
  replace BB := Lib.hid (BB.out.trans (hb.mono BB.out.size))
  clear hb
  go_wp2_with fail
  refine (word_any 0 _).mono ?_
  rintro e w4 ⟨rfl, hb⟩
  replace BB := Lib.hid (BB.out.trans (hb.mono BB.out.size))
  clear hb
  go_wp2_with fail
  refine (new_ok 3 w4.heap.size 0 3 [(0, 0, 0), (0, 0, 0), (0, 0, 0)] _ (by simp) (by simp) (by omega) (by omega) (by simp) (fun i hi => ?_)).mono ?_
  · have hi' : i = 0 ∨ i = 1 ∨ i = 2 := by simp at hi; omega
    rcases hi' with rfl | rfl | rfl <;> simp [go_sem]
  rintro e w5 ⟨pv, vv, rfl, hm, hb⟩
  replace BB := Lib.hid ((BB.out.alloc BB.out.size _).trans (hb.mono (BB.out.alloc BB.out.size _).size))
  clear hb
  obtain ⟨u1, u2, rfl, rfl⟩ := hm.sl (np := 3) (nv := 3) (by simp [newMem]) (by simp [newMem])
  have PP : Hid (PK 1 p 0 (newMem 3 [(0, 0, 0), (0, 0, 0), (0, 0, 0)])) := Lib.hid ⟨newMem_good _ _ (by simp) (by omega), by simp [newMem], by simp [newMem], by
    have hp' : p = 0 ∨ p = 1 ∨ p = 2 := by omega
    rcases hp' with rfl | rfl | rfl <;> rfl⟩
  generalize newMem 3 [(0, 0, 0), (0, 0, 0), (0, 0, 0)] = M0 at *
  have MM := Lib.hid hm
  clear hm
  have A0 : Hid (AtK w w5.heap.size (w5.heap.size + 1) (w5.heap.size + 1 + 1) u1 u2 M0 (fun _ => 0) (fun _ => false) (((w5.alloc (.cells #[.slice u1 3 3, .slice u2 3 3] 31)).alloc (.cells #[.int .i64 0, .int .u32 0, .int .u32 0, .int .i64 0, .int .u32 0, .int .u32 0, .int .i64 0, .int .u32 0, .int .u32 0] 88)).alloc (.cells #[.bool false, .bool false, .bool false] 89))) := Lib.hid (by
    have hz := BB.out.size
    refine ⟨((Box.new w5 _ 31 rfl).alloc _).alloc _, (Box.new _ _ 88 (by simp)).alloc _, Box.new _ _ 89 (by simp), ?_, ((BB.out.alloc hz _).alloc (by simp; omega) _).alloc (by simp; omega) _, by omega, by omega, by omega⟩
    refine (MM.out.addlt.imp (D' := fun b => b ≠ w5.heap.size ∧ b ≠ w5.heap.size + 1 ∧ b ≠ w5.heap.size + 1 + 1) (fun b hb => by have := hb.2; omega)).below ?_
    exact (((Below.refl _ _).alloc (Nat.le_refl _) _).alloc (by simp) _).alloc (by simp; omega) _)
  clear BB MM h1
  go_wp2_with fail
  generalize hW0 : ((w5.alloc (.cells #[.slice u1 3 3, .slice u2 3 3] 31)).alloc (.cells #[.int .i64 0, .int .u32 0, .int .u32 0, .int .i64 0, .int .u32 0, .int .u32 0, .int .i64 0, .int .u32 0, .int .u32 0] 88)).alloc (.cells #[.bool false, .bool false, .bool false] 89) = W0 at A0 ⊢
  generalize hb5 : w5.heap.size = b5 at A0 ⊢
  generalize hb8 : b5 + 1 = b8 at A0 ⊢
  generalize hb9 : b8 + 1 = b9 at A0 ⊢
  clear hW0 hb5 hb8 hb9
  --HEAD
  go_loopw [10, 11] (InvK w b5 b8 b9 p n1) (fun _ iv _ => n1 - (intOf iv).toNat)
  case atStart => exact ⟨0, 0, u1, u2, M0, fun _ => 0, fun _ => false, rfl, rfl, by omega, ⟨by omega, by omega⟩, fun _ _ => ⟨Int.le_refl 0, Int.le_refl 0⟩, PP.out, A0.out⟩
  case round =>
    clear A0 PP
    obtain ⟨k, n, u1, u2, M, S, K, rfl, rfl, hk, ⟨hn0, hn⟩, hS, hPK, hA⟩ := hrel
    have A := Lib.hid hA
    have PKK := Lib.hid hPK
    have SS := Lib.hid hS
    clear hA hPK hS
    by_cases hlt : k < n1
    · obtain ⟨b, off, rfl, hbl, hcl⟩ : ∃ b off, a = some ⟨b, off, none⟩ ∧ b < w.heap.size ∧ ∀ i, i < l.length → w.cell? ⟨b, off + i, none⟩ = some (.int .u8 (l.getD i 0)) ∧ 0 ≤ l.getD i 0 ∧ l.getD i 0 < 256 := by
        rcases HC.out with h | h
        · rw [h] at HN; have := HN.out; simp at this; omega
        · exact h
      obtain ⟨c0, x0, x1⟩ := hcl k (by rw [HN.out]; exact hlt)
      rw [← A.out.g.cell (p := ⟨b, _, none⟩) hbl] at c0
      clear hcl hbl
      obtain ⟨x, hx⟩ : ∃ x, l.getD k 0 = x := ⟨_, rfl⟩
      rw [hx] at c0 x0 x1
      clear hx
      obtain ⟨x, rfl⟩ : ∃ y : Nat, x = y := ⟨x.toNat, by omega⟩
      have m1 : (x : Int).tmod 3 = ((x % 3 : Nat) : Int) := by rw [Int.tmod_eq_emod_of_nonneg (by omega)]; simp
      have m2 : (x : Int) % 3 = ((x % 3 : Nat) : Int) := by simp
      have ht3 : x % 3 < 3 := Nat.mod_lt _ (by omega)
      obtain ⟨t, hxt⟩ : ∃ y, x % 3 = y := ⟨_, rfl⟩
      rw [hxt] at m1 m2 ht3
      clear hxt
      have m3 : IntKind.i64.wrap (t : Int) = (t : Int) := IntWalk.i64_in _ (by omega)
      have m4 : (t : Int) < 3 := by omega
      have m5 : IntKind.i64.wrap ((t : Int) + 1) = (t : Int) + 1 := IntWalk.i64_in _ (by omega)
      obtain ⟨k9, f9⟩ := A.out.at9 ht3
      cases hKt : K t with
      | false =>
        rw [hKt] at k9
        go_upto_region 15 with fail
        clear c0 x0 x1 m1 m2
        have c50 := A.out.x5.cell 0
        have c51 := A.out.x5.cell 1
        simp at c50 c51
        go_wp2_with fail
        refine (look_ok _ _ M (1 + k) t p wr _ A.out.mm PKK.out.g (by omega) (by rw [PKK.out.v]; exact ht3) (by rw [PKK.out.h]; exact hp)).mono ?_
        rintro e w7 ⟨vv', rfl, hm7, hb⟩
        obtain ⟨v1, v2, e1, rfl⟩ := hm7.sl (np := 3) (nv := 3) (by show M.hs.length = 3; exact PKK.out.h) (by show (M.vs.set _ _).length = 3; rw [List.length_set]; exact PKK.out.v)
        injection e1 with e1
        subst e1
        rw [PKK.out.l]
        have AL := Lib.hid (A.out.look hb hm7 ht3 n)
        have B5 := Lib.hid (A.out.x5.below hb)
        have B8 := Lib.hid (A.out.x8.below hb)
        have B9 := Lib.hid (A.out.x9.below hb)
        have OO := Lib.hid A.out.o
        have P8 := Lib.hid (AtK.at8' B8.out ht3)
        have P9 := Lib.hid (AtK.at9' B9.out ht3)
        clear hm7 hb A k9 f9 c50 c51
        have c50 := B5.out.cell 0
        have c51 := B5.out.cell 1
        have f50 := B5.out.free 0
        have f51 := B5.out.free 1
        simp at c50 c51
        obtain ⟨⟨c80, c81, c82⟩, f80, f81, f82⟩ := P8.out
        obtain ⟨k9, f9⟩ := P9.out
        obtain ⟨o1, o2, o3⟩ := OO.out
        have n1' : b5 ≠ b8 := by omega
        have n2' : b5 ≠ b9 := by omega
        have n3' : b8 ≠ b9 := by omega
        have l5 := B5.out.lt
        clear o1 o2 o3
        go_upto_region 12 with fail
        --LOOKED
        go_wp2_with fail
        go_roundw
        case rel => exact ⟨k + 1, n, u1, v2, _, _, _, rfl, by go_num, by omega, ⟨hn0, by omega⟩, fun i hi => by unfold upd; have := SS.out i hi; split <;> omega, PKK.out.look, AL.out⟩
        case measure => simp [intOf]; omega
      | true =>
        rw [hKt] at k9
        go_upto_region 17 with fail
        clear c0 x0 x1 m1 m2
        have AD := Lib.hid (A.out.drop ht3)
        go_upto_region 18 with fail
        clear k9 f9 A
        generalize wr.setCell ⟨b9, t, none⟩ (.bool false) = W1 at *
        have X5 := Lib.hid AD.out.x5
        have X8 := Lib.hid AD.out.x8
        have X9 := Lib.hid AD.out.x9
        have MM := Lib.hid AD.out.mm
        have BB := Lib.hid AD.out.g
        have OO := Lib.hid AD.out.o
        have C8 := Lib.hid (fun W (h : Box W b8 #[.int .i64 (S 0), .int .u32 0, .int .u32 0, .int .i64 (S 1), .int .u32 0, .int .u32 0, .int .i64 (S 2), .int .u32 0, .int .u32 0] 88) => (AtK.at8' h ht3).1)
        obtain ⟨s0, s1⟩ := SS.out t ht3
        clear AD
        have SX := Lib.hid (show ∃ s, S t = s from ⟨_, rfl⟩)
        obtain ⟨s, hs⟩ := SX.out
        rw [hs] at C8 s0 s1
        clear SX
        have HS := Lib.hid hs
        clear hs
        have q1 : IntKind.i64.wrap (s + 1) = s + 1 := IntWalk.i64_in _ (by omega)
        obtain ⟨o1, o2, o3⟩ := OO.out
        generalize hK' : upd K t false = K' at *
        clear hK' hKt
        have hl5 := X5.out.lt
        have hl8 := X8.out.lt
        have hl9 := X9.out.lt
        have C5 := Lib.hid (fun W (h : Below W1.heap.size W1 W) => (⟨(X5.out.below h).cell 0, (X5.out.below h).cell 1⟩ : W.cell? ⟨b5, 0, none⟩ = some (.slice u1 3 3) ∧ W.cell? ⟨b5, 1, none⟩ = some (.slice u2 3 3)))
        replace C8 := Lib.hid (fun W (h : Below W1.heap.size W1 W) => C8.out W (X8.out.below h))
        have SWX : Hid (∃ (dn : Bool) (n' : Int) (M' : Mem), (s == n) = dn ∧ n' = (if dn = true then n + 1 else n) ∧ PK (1 + (k + 1)) p n' M' ∧ ∀ V D, MD D V (.slice u1 3 3) (.slice u2 3 3) M → Calls Try.prog 28 #[.agg #[.slice u1 3 3, .slice u2 3 3], .int .i64 ((t : Int) + 1), .int .i64 p, .agg #[.int .i64 s, .int .u32 0, .int .u32 0], .agg #[.int .i64 (s + 1), .int .u32 0, .int .u32 0]] V fun e w' => ∃ z1 z2, e = .returned (.tuple #[.agg #[.slice z1 3 3, .slice z2 3 3], .agg #[.int .i64 n, .int .u32 0, .int .u32 0], .bool dn, .int .i64 0]) ∧ MD (Dn D V) w' (.slice z1 3 3) (.slice z2 3 3) M' ∧ Below V.heap.size V w') := Lib.hid (by
          by_cases hsn : s = n
          · have PN : PK (1 + (k + 1)) p (n + 1) ((M.readAt t p ((M.hist p).length - 1) true).writeAt t p (s + 1) 0 0 true) := by rw [hsn]; exact PKK.out.hit hp
            refine ⟨true, n + 1, _, by rw [beq_iff_eq]; exact hsn, by rw [if_pos rfl], PN, fun V D h => ?_⟩
            refine (swap_hit _ _ M (1 + k) t p s 0 0 (s + 1) 0 0 V _ h PKK.out.g (by omega) (by rw [PKK.out.v]; exact ht3) (by rw [PKK.out.h]; exact hp) (by rw [hsn]; exact PKK.out.word)).mono ?_
            rintro e w7 ⟨pv', vv', rfl, hmx, hb⟩
            obtain ⟨z1, z2, rfl, rfl⟩ := hmx.sl (np := 3) (nv := 3) (by rw [PN.h]) (by rw [PN.v])
            exact ⟨z1, z2, by rw [PKK.out.l], hmx, hb⟩
          · have PN : PK (1 + (k + 1)) p n (M.readAt t p ((M.hist p).length - 1) true) := PKK.out.look
            refine ⟨false, n, _, by rw [beq_eq_false_iff_ne]; exact hsn, by rw [if_neg (by decide)], PN, fun V D h => ?_⟩
            refine (swap_miss _ _ M (1 + k) t p s 0 0 (s + 1) 0 0 V _ h PKK.out.g (by omega) (by rw [PKK.out.v]; exact ht3) (by rw [PKK.out.h]; exact hp) (by intro h; exact hsn (h.1.symm.trans PKK.out.word.1))).mono ?_
            rintro e w7 ⟨pv', vv', rfl, hmx, hb⟩
            obtain ⟨z1, z2, rfl, rfl⟩ := hmx.sl (np := 3) (nv := 3) (by rw [PN.h]) (by rw [PN.v])
            exact ⟨z1, z2, by rw [PKK.out.l], hmx, hb⟩)
        obtain ⟨dn, n', M', hqs, hn', hPN, hSW⟩ := SWX.out
        have QS := Lib.hid hqs
        have QN := Lib.hid hn'
        have PN := Lib.hid hPN
        have SW := Lib.hid hSW
        clear SWX hqs hn' hPN hSW
        have BV := Lib.hid (Below.refl W1.heap.size W1)
        go_cut [13, 15, 16] (fun s13 s15 s16 wx => ∃ p13 z1 z2, s13 = .pointer (some ⟨p13, 0, none⟩) ∧ s15 = .bool dn ∧ s16 = .int .i64 0 ∧ Box wx p13 #[.slice z1 3 3, .slice z2 3 3] 31 ∧ MD (fun b => b ≠ b5 ∧ b ≠ b8 ∧ b ≠ b9) wx (.slice z1 3 3) (.slice z2 3 3) M' ∧ Below W1.heap.size W1 wx)
        case first =>
          clear QS QN PN PKK X5 X8 X9 BB HS SS HC HN
          replace MM := Lib.hid (MM.out.below ((Below.refl _ _).drew))
          replace BV := Lib.hid (BV.out.trans (((Below.refl _ _).drew).mono BV.out.size))
          refine wp_region_held_drew (S := fun w' => w'.cell? ⟨b5, 0, none⟩ = some (.slice u1 3 3) ∧ w'.cell? ⟨b5, 1, none⟩ = some (.slice u2 3 3) ∧ w'.cell? ⟨b8, t * 3, none⟩ = some (.int .i64 s) ∧ w'.cell? ⟨b8, t * 3 + 1, none⟩ = some (.int .u32 0) ∧ w'.cell? ⟨b8, t * 3 + 2, none⟩ = some (.int .u32 0)) (by kernel_rfl) ⟨(C5.out _ BV.out).1, (C5.out _ BV.out).2, (C8.out _ BV.out).1, (C8.out _ BV.out).2.1, (C8.out _ BV.out).2.2⟩ (fun hHeld => ?_)
          generalize World.drew W1 = V100 at *
          refine wpAnyH_take (i := 0) (oi := { dst := some 69, op := Op.load 31 (Operand.tmp 5), type := 31, pos := "law.go:278", after := #[], guard := none }) (v := ?d101_1xv0) rfl (by kernel_rfl) (by kernel_rfl) (by kernel_rfl) (fun _ _ _ h => h) (Or.inl ⟨by rfl, ?d101_1xy0⟩) (by assumption) ?d101_1xr0
          case d101_1xy0 => (intro w hSw; (try dsimp only at hSw); go_simp; try with_reducible rfl)
          (try simp only [Act.put])
          (try simp only [List.setIfInBounds_toArray])
          (try simp only [List.set_cons_succ])
          (try simp only [List.set_cons_zero])
          refine wpAnyH_take (i := 1) (oi := { dst := some 70, op := Op.move (Operand.tmp 12), type := 3, pos := "law.go:278", after := #[], guard := none }) (v := ?d101_2xv1) rfl (by kernel_rfl) (by kernel_rfl) (by kernel_rfl) (fun _ _ _ h => h) (Or.inl ⟨by rfl, ?d101_2xy1⟩) (by assumption) ?d101_2xr1
          case d101_2xy1 => (intro w hSw; (try dsimp only at hSw); go_simp; try with_reducible rfl)
          (try simp only [Act.put])
          (try simp only [List.setIfInBounds_toArray])
          (try simp only [List.set_cons_succ])
          (try simp only [List.set_cons_zero])
          refine wpAnyH_take (i := 2) (oi := { dst := some 71, op := Op.binOp BinOp.add 3 (Operand.tmp 70) (Operand.const (Value.int IntKind.i64 1)) 3, type := 3, pos := "law.go:278", after := #[{ on := 1, ground := Ground.data }], guard := none }) (v := ?d101_3xv2) rfl (by kernel_rfl) (by kernel_rfl) (by kernel_rfl) (fun _ _ _ h => h) (Or.inl ⟨by rfl, ?d101_3xy2⟩) (by assumption) ?d101_3xr2
          case d101_3xy2 => (intro w hSw; (try dsimp only at hSw); go_simp; try with_reducible rfl)
          (try simp only [Act.put])
          (try simp only [List.setIfInBounds_toArray])
          (try simp only [List.set_cons_succ])
          (try simp only [List.set_cons_zero])
          refine wpAnyH_take (i := 3) (oi := { dst := some 72, op := Op.move (Operand.tmp 7), type := 42, pos := "law.go:278", after := #[], guard := none }) (v := ?d101_4xv3) rfl (by kernel_rfl) (by kernel_rfl) (by kernel_rfl) (fun _ _ _ h => h) (Or.inl ⟨by rfl, ?d101_4xy3⟩) (by assumption) ?d101_4xr3
          case d101_4xy3 => (intro w hSw; (try dsimp only at hSw); go_simp; try with_reducible rfl)
          (try simp only [Act.put])
          (try simp only [List.setIfInBounds_toArray])
          (try simp only [List.set_cons_succ])
          (try simp only [List.set_cons_zero])
          refine wpAnyH_take (i := 4) (oi := { dst := some 73, op := Op.move (Operand.tmp 12), type := 3, pos := "law.go:278", after := #[], guard := none }) (v := ?d101_5xv4) rfl (by kernel_rfl) (by kernel_rfl) (by kernel_rfl) (fun _ _ _ h => h) (Or.inl ⟨by rfl, ?d101_5xy4⟩) (by assumption) ?d101_5xr4
          case d101_5xy4 => (intro w hSw; (try dsimp only at hSw); go_simp; try with_reducible rfl)
          (try simp only [Act.put])
          (try simp only [List.setIfInBounds_toArray])
          (try simp only [List.set_cons_succ])
          (try simp only [List.set_cons_zero])
          refine wpAnyH_take (i := 5) (oi := { dst := some 74, op := Op.indexAddr 88 (Operand.tmp 8) (Operand.tmp 73), type := 0, pos := "law.go:278", after := #[{ on := 4, ground := Ground.data }], guard := none }) (v := ?d101_6xv5) rfl (by kernel_rfl) (by kernel_rfl) (by kernel_rfl) (fun _ _ _ h => h) (Or.inl ⟨by rfl, ?d101_6xy5⟩) (by assumption) ?d101_6xr5
          case d101_6xy5 => (intro w hSw; (try dsimp only at hSw); go_simp; try with_reducible rfl)
          (try simp only [Act.put])
          (try simp only [List.setIfInBounds_toArray])
          (try simp only [List.set_cons_succ])
          (try simp only [List.set_cons_zero])
          refine wpAnyH_take (i := 6) (oi := { dst := some 75, op := Op.load 45 (Operand.tmp 74), type := 45, pos := "law.go:278", after := #[{ on := 5, ground := Ground.data }], guard := none }) (v := ?d101_7xv6) rfl (by kernel_rfl) (by kernel_rfl) (by kernel_rfl) (fun _ _ _ h => h) (Or.inl ⟨by rfl, ?d101_7xy6⟩) (by assumption) ?d101_7xr6
          case d101_7xy6 => (intro w hSw; (try dsimp only at hSw); go_simp; try with_reducible rfl)
          (try simp only [Act.put])
          (try simp only [List.setIfInBounds_toArray])
          (try simp only [List.set_cons_succ])
          (try simp only [List.set_cons_zero])
          refine wpAnyH_take (i := 7) (oi := { dst := some 76, op := Op.move (Operand.tmp 12), type := 3, pos := "law.go:278", after := #[], guard := none }) (v := ?d101_8xv7) rfl (by kernel_rfl) (by kernel_rfl) (by kernel_rfl) (fun _ _ _ h => h) (Or.inl ⟨by rfl, ?d101_8xy7⟩) (by assumption) ?d101_8xr7
          case d101_8xy7 => (intro w hSw; (try dsimp only at hSw); go_simp; try with_reducible rfl)
          (try simp only [Act.put])
          (try simp only [List.setIfInBounds_toArray])
          (try simp only [List.set_cons_succ])
          (try simp only [List.set_cons_zero])
          refine wpAnyH_take (i := 8) (oi := { dst := some 77, op := Op.indexAddr 88 (Operand.tmp 8) (Operand.tmp 76), type := 0, pos := "law.go:278", after := #[{ on := 7, ground := Ground.data }], guard := none }) (v := ?d101_9xv8) rfl (by kernel_rfl) (by kernel_rfl) (by kernel_rfl) (fun _ _ _ h => h) (Or.inl ⟨by rfl, ?d101_9xy8⟩) (by assumption) ?d101_9xr8
          case d101_9xy8 => (intro w hSw; (try dsimp only at hSw); go_simp; try with_reducible rfl)
          (try simp only [Act.put])
          (try simp only [List.setIfInBounds_toArray])
          (try simp only [List.set_cons_succ])
          (try simp only [List.set_cons_zero])
          refine wpAnyH_take (i := 9) (oi := { dst := some 78, op := Op.fieldAddr 45 (Operand.tmp 77) 0, type := 0, pos := "law.go:278", after := #[{ on := 8, ground := Ground.data }], guard := none }) (v := ?d101_10xv9) rfl (by kernel_rfl) (by kernel_rfl) (by kernel_rfl) (fun _ _ _ h => h) (Or.inl ⟨by rfl, ?d101_10xy9⟩) (by assumption) ?d101_10xr9
          case d101_10xy9 => (intro w hSw; (try dsimp only at hSw); go_simp; try with_reducible rfl)
          (try simp only [Act.put])
          (try simp only [List.setIfInBounds_toArray])
          (try simp only [List.set_cons_succ])
          (try simp only [List.set_cons_zero])
          refine wpAnyH_take (i := 10) (oi := { dst := some 79, op := Op.load 2 (Operand.tmp 78), type := 2, pos := "law.go:278", after := #[{ on := 9, ground := Ground.data }], guard := none }) (v := ?d101_11xv10) rfl (by kernel_rfl) (by kernel_rfl) (by kernel_rfl) (fun _ _ _ h => h) (Or.inl ⟨by rfl, ?d101_11xy10⟩) (by assumption) ?d101_11xr10
          case d101_11xy10 => (intro w hSw; (try dsimp only at hSw); go_simp; try with_reducible rfl)
          (try simp only [Act.put])
          (try simp only [List.setIfInBounds_toArray])
          (try simp only [List.set_cons_succ])
          (try simp only [List.set_cons_zero])
          refine wpAnyH_take (i := 11) (oi := { dst := some 80, op := Op.binOp BinOp.add 2 (Operand.tmp 79) (Operand.const (Value.int IntKind.i64 1)) 2, type := 2, pos := "law.go:278", after := #[{ on := 10, ground := Ground.data }], guard := none }) (v := ?d101_12xv11) rfl (by kernel_rfl) (by kernel_rfl) (by kernel_rfl) (fun _ _ _ h => h) (Or.inl ⟨by rfl, ?d101_12xy11⟩) (by assumption) ?d101_12xr11
          case d101_12xy11 => (intro w hSw; (try dsimp only at hSw); go_simp; try with_reducible rfl)
          (try simp only [Act.put])
          (try simp only [List.setIfInBounds_toArray])
          (try simp only [List.set_cons_succ])
          (try simp only [List.set_cons_zero])
          refine wpAnyH_ready (rs := [12, 19, 20]) (by kernel_rfl) (by simp) ?_
          refine AllReadyH.cons (o := { dst := some 81, op := Op.call { callee := Callee.value (Operand.func 29), args := #[Operand.tmp 80], argTypes := #[2] }, type := 45, pos := "law.go:278", after := #[{ on := 11, ground := Ground.data }], guard := none }) rfl (fun K hK => ?_) ?_
          · skip
            go_simp
            go_at_call 29
            refine (word_any (s + 1) _).mono ?_
            rintro e v101 ⟨rfl, hb⟩
            replace MM := Lib.hid (MM.out.below (hb))
            replace BV := Lib.hid (BV.out.trans ((hb).mono BV.out.size))
            clear hb
            go_simp
            refine hK.out _ _ ?_ (fun hHeld => ?_)
            · exact ⟨(C5.out _ BV.out).1, (C5.out _ BV.out).2, (C8.out _ BV.out).1, (C8.out _ BV.out).2.1, (C8.out _ BV.out).2.2⟩
            clear hK K
            (try simp only [Act.put])
            (try simp only [List.setIfInBounds_toArray])
            (try simp only [List.set_cons_succ])
            (try simp only [List.set_cons_zero])
            refine wpAnyH_ready (rs := [13, 19, 20]) (by kernel_rfl) (by simp) ?_
            refine AllReadyH.cons (o := { dst := some 82, op := Op.call { callee := Callee.value (Operand.func 28), args := #[Operand.tmp 69, Operand.tmp 71, Operand.tmp 72, Operand.tmp 75, Operand.tmp 81], argTypes := #[31, 3, 42, 45, 45] }, type := 50, pos := "law.go:278", after := #[{ on := 0, ground := Ground.data }, { on := 2, ground := Ground.data }, { on := 3, ground := Ground.data }, { on := 6, ground := Ground.data }, { on := 12, ground := Ground.data }, { on := 12, ground := Ground.chain }], guard := none }) rfl (fun K hK => ?_) ?_
            · skip
              go_simp
              go_at_call 28
              have hl_b := BV.out.size
              refine (SW.out _ _ MM.out).mono ?_
              rintro e v102 ⟨z1, z2, rfl, hmx, hb⟩
              replace MM := Lib.hid (hmx.imp (D' := (fun b => b ≠ b5 ∧ b ≠ b8 ∧ b ≠ b9)) (fun b hb => by rcases hb with hb | hb <;> (try simp only [ne_eq] at hb ⊢) <;> omega))
              clear hmx hl_b 
              replace BV := Lib.hid (BV.out.trans ((hb).mono BV.out.size))
              clear hb
              go_simp
              refine hK.out _ _ ?_ (fun hHeld => ?_)
              · exact ⟨(C5.out _ BV.out).1, (C5.out _ BV.out).2, (C8.out _ BV.out).1, (C8.out _ BV.out).2.1, (C8.out _ BV.out).2.2⟩
              clear hK K
              (try simp only [Act.put])
              (try simp only [List.setIfInBounds_toArray])
              (try simp only [List.set_cons_succ])
              (try simp only [List.set_cons_zero])
              refine wpAnyH_take (i := 14) (oi := { dst := some 68, op := Op.move (Operand.tmp 82), type := 50, pos := "law.go:278", after := #[{ on := 13, ground := Ground.data }], guard := none }) (v := ?d103_13xv14) rfl (by kernel_rfl) (by kernel_rfl) (by kernel_rfl) (fun _ _ _ h => h) (Or.inl ⟨by rfl, ?d103_13xy14⟩) (by assumption) ?d103_13xr14
              case d103_13xy14 => (intro w hSw; (try dsimp only at hSw); go_simp; try with_reducible rfl)
              (try simp only [Act.put])
              (try simp only [List.setIfInBounds_toArray])
              (try simp only [List.set_cons_succ])
              (try simp only [List.set_cons_zero])
              refine wpAnyH_take (i := 15) (oi := { dst := some 83, op := Op.extract (Operand.tmp 68) 0, type := 31, pos := "law.go:278", after := #[{ on := 14, ground := Ground.data }], guard := none }) (v := ?d103_14xv15) rfl (by kernel_rfl) (by kernel_rfl) (by kernel_rfl) (fun _ _ _ h => h) (Or.inl ⟨by rfl, ?d103_14xy15⟩) (by assumption) ?d103_14xr15
              case d103_14xy15 => (intro w hSw; (try dsimp only at hSw); go_simp; try with_reducible rfl)
              (try simp only [Act.put])
              (try simp only [List.setIfInBounds_toArray])
              (try simp only [List.set_cons_succ])
              (try simp only [List.set_cons_zero])
              refine wpAnyH_take (i := 16) (oi := { dst := some 84, op := Op.extract (Operand.tmp 68) 1, type := 45, pos := "law.go:278", after := #[{ on := 14, ground := Ground.data }, { on := 21, ground := Ground.gcOnly Departure.lateStores }], guard := none }) (v := ?d103_15xv16) rfl (by kernel_rfl) (by kernel_rfl) (by kernel_rfl) (fun _ _ _ h => h) (Or.inl ⟨by rfl, ?d103_15xy16⟩) (by assumption) ?d103_15xr16
              case d103_15xy16 => (intro w hSw; (try dsimp only at hSw); go_simp; try with_reducible rfl)
              (try simp only [Act.put])
              (try simp only [List.setIfInBounds_toArray])
              (try simp only [List.set_cons_succ])
              (try simp only [List.set_cons_zero])
              refine wpAnyH_take (i := 17) (oi := { dst := some 85, op := Op.extract (Operand.tmp 68) 2, type := 4, pos := "law.go:278", after := #[{ on := 14, ground := Ground.data }, { on := 22, ground := Ground.gcOnly Departure.lateStores }], guard := none }) (v := ?d103_16xv17) rfl (by kernel_rfl) (by kernel_rfl) (by kernel_rfl) (fun _ _ _ h => h) (Or.inl ⟨by rfl, ?d103_16xy17⟩) (by assumption) ?d103_16xr17
              case d103_16xy17 => (intro w hSw; (try dsimp only at hSw); go_simp; try with_reducible rfl)
              (try simp only [Act.put])
              (try simp only [List.setIfInBounds_toArray])
              (try simp only [List.set_cons_succ])
              (try simp only [List.set_cons_zero])
              refine wpAnyH_take (i := 18) (oi := { dst := some 86, op := Op.extract (Operand.tmp 68) 3, type := 32, pos := "law.go:278", after := #[{ on := 14, ground := Ground.data }, { on := 23, ground := Ground.gcOnly Departure.lateStores }], guard := none }) (v := ?d103_17xv18) rfl (by kernel_rfl) (by kernel_rfl) (by kernel_rfl) (fun _ _ _ h => h) (Or.inl ⟨by rfl, ?d103_17xy18⟩) (by assumption) ?d103_17xr18
              case d103_17xy18 => (intro w hSw; (try dsimp only at hSw); go_simp; try with_reducible rfl)
              (try simp only [Act.put])
              (try simp only [List.setIfInBounds_toArray])
              (try simp only [List.set_cons_succ])
              (try simp only [List.set_cons_zero])
              refine wpAnyH_ready (rs := [19, 20]) (by kernel_rfl) (by simp) ?_
              refine AllReadyH.cons (o := { dst := some 13, op := Op.alloc 31, type := 0, pos := "law.go:278", after := #[], guard := none }) rfl (fun K hK => ?_) ?_
              · skip
                go_simp
                have hlt_p13 := BV.out.size
                have MM' := Lib.hid MM.out.addne
                clear MM
                have MM := MM'
                clear MM'
                replace MM := Lib.hid (MM.out.below (below_new v102 (.cells #[.slice none 0 0, .slice none 0 0] 31)))
                replace BV := Lib.hid (BV.out.trans ((below_new v102 (.cells #[.slice none 0 0, .slice none 0 0] 31)).mono BV.out.size))
                have X13 := Lib.hid (Box.new v102 #[.slice none 0 0, .slice none 0 0] 31 rfl)
                generalize World.alloc v102 (.cells #[.slice none 0 0, .slice none 0 0] 31) = v103 at *
                generalize World.heap v102 = hp_p13 at *
                generalize hp_p13.size = p13 at *
                refine hK.out _ _ ?_ (fun hHeld => ?_)
                · exact ⟨(C5.out _ BV.out).1, (C5.out _ BV.out).2, (C8.out _ BV.out).1, (C8.out _ BV.out).2.1, (C8.out _ BV.out).2.2⟩
                clear hK K
                (try simp only [Act.put])
                (try simp only [List.setIfInBounds_toArray])
                (try simp only [List.set_cons_succ])
                (try simp only [List.set_cons_zero])
                refine wpAnyH_ready (rs := [20]) (by kernel_rfl) (by simp) ?_
                refine AllReadyH.cons (o := { dst := some 14, op := Op.alloc 45, type := 0, pos := "law.go:278", after := #[], guard := none }) rfl (fun K hK => ?_) AllReadyH.nil
                go_simp
                have hlt_p14 := BV.out.size
                have hlt_p14_X13 := X13.out.lt
                have MM' := Lib.hid MM.out.addne
                clear MM
                have MM := MM'
                clear MM'
                replace MM := Lib.hid (MM.out.below (below_new v103 (.cells #[.int .i64 0, .int .u32 0, .int .u32 0] 45)))
                replace X13 := Lib.hid (X13.out.below (below_new v103 (.cells #[.int .i64 0, .int .u32 0, .int .u32 0] 45)))
                replace BV := Lib.hid (BV.out.trans ((below_new v103 (.cells #[.int .i64 0, .int .u32 0, .int .u32 0] 45)).mono BV.out.size))
                have X14 := Lib.hid (Box.new v103 #[.int .i64 0, .int .u32 0, .int .u32 0] 45 rfl)
                generalize World.alloc v103 (.cells #[.int .i64 0, .int .u32 0, .int .u32 0] 45) = v104 at *
                generalize World.heap v103 = hp_p14 at *
                generalize hp_p14.size = p14 at *
                refine hK.out _ _ ?_ (fun hHeld => ?_)
                · exact ⟨(C5.out _ BV.out).1, (C5.out _ BV.out).2, (C8.out _ BV.out).1, (C8.out _ BV.out).2.1, (C8.out _ BV.out).2.2⟩
                clear hK K
                (try simp only [Act.put])
                (try simp only [List.setIfInBounds_toArray])
                (try simp only [List.set_cons_succ])
                (try simp only [List.set_cons_zero])
                refine wpAnyH_ready (rs := [21]) (by kernel_rfl) (by simp) ?_
                refine AllReadyH.cons (o := { dst := none, op := Op.store 31 (Operand.tmp 13) (Operand.tmp 83), type := 0, pos := "law.go:278", after := #[{ on := 19, ground := Ground.data }, { on := 15, ground := Ground.data }, { on := 13, ground := Ground.chain }, { on := 0, ground := Ground.phase }, { on := 1, ground := Ground.phase }, { on := 2, ground := Ground.phase }, { on := 3, ground := Ground.phase }, { on := 4, ground := Ground.phase }, { on := 5, ground := Ground.phase }, { on := 6, ground := Ground.phase }, { on := 7, ground := Ground.phase }, { on := 8, ground := Ground.phase }, { on := 9, ground := Ground.phase }, { on := 10, ground := Ground.phase }, { on := 11, ground := Ground.phase }, { on := 12, ground := Ground.phase }, { on := 13, ground := Ground.phase }, { on := 14, ground := Ground.phase }, { on := 15, ground := Ground.phase }, { on := 16, ground := Ground.textOnly Departure.lateStores }, { on := 17, ground := Ground.textOnly Departure.lateStores }, { on := 18, ground := Ground.textOnly Departure.lateStores }, { on := 19, ground := Ground.phase }, { on := 20, ground := Ground.phase }], guard := none }) rfl (fun K hK => ?_) AllReadyH.nil
                obtain ⟨⟨m0, m1⟩, g0, g1⟩ := X13.out.cells2
                go_simp
                clear m0 g0 m1 g1
                replace MM := Lib.hid (MM.out.only X13.out (by simp) (((Only.refl p13 v104).set 0 (.slice z1 3 3)).set 1 (.slice z2 3 3)))
                replace X14 := Lib.hid (X14.out.only (by omega) (((Only.refl p13 v104).set 0 (.slice z1 3 3)).set 1 (.slice z2 3 3)))
                replace BV := Lib.hid (((BV.out).put p13 (by omega) 0 (.slice z1 3 3)).put p13 (by omega) 1 (.slice z2 3 3))
                replace X13 := Lib.hid (((X13.out).set 0 (.slice z1 3 3)).set 1 (.slice z2 3 3))
                generalize (World.setCell (World.setCell v104 ⟨p13, 0, none⟩ (.slice z1 3 3)) ⟨p13, 1, none⟩ (.slice z2 3 3)) = v105 at *
                refine hK.out _ _ ?_ (fun hHeld => ?_)
                · exact ⟨(C5.out _ BV.out).1, (C5.out _ BV.out).2, (C8.out _ BV.out).1, (C8.out _ BV.out).2.1, (C8.out _ BV.out).2.2⟩
                clear hK K
                (try simp only [Act.put])
                (try simp only [List.setIfInBounds_toArray])
                (try simp only [List.set_cons_succ])
                (try simp only [List.set_cons_zero])
                refine wpAnyH_ready (rs := [22]) (by kernel_rfl) (by simp) ?_
                refine AllReadyH.cons (o := { dst := none, op := Op.store 45 (Operand.tmp 14) (Operand.tmp 84), type := 0, pos := "law.go:278", after := #[{ on := 20, ground := Ground.data }, { on := 16, ground := Ground.data }, { on := 21, ground := Ground.chain }, { on := 0, ground := Ground.phase }, { on := 1, ground := Ground.phase }, { on := 2, ground := Ground.phase }, { on := 3, ground := Ground.phase }, { on := 4, ground := Ground.phase }, { on := 5, ground := Ground.phase }, { on := 6, ground := Ground.phase }, { on := 7, ground := Ground.phase }, { on := 8, ground := Ground.phase }, { on := 9, ground := Ground.phase }, { on := 10, ground := Ground.phase }, { on := 11, ground := Ground.phase }, { on := 12, ground := Ground.phase }, { on := 13, ground := Ground.phase }, { on := 14, ground := Ground.phase }, { on := 15, ground := Ground.phase }, { on := 16, ground := Ground.phase }, { on := 17, ground := Ground.textOnly Departure.lateStores }, { on := 18, ground := Ground.textOnly Departure.lateStores }, { on := 19, ground := Ground.phase }, { on := 20, ground := Ground.phase }, { on := 21, ground := Ground.phase }], guard := none }) rfl (fun K hK => ?_) AllReadyH.nil
                obtain ⟨⟨m0, m1, m2⟩, g0, g1, g2⟩ := X14.out.cells3
                go_simp
                clear m0 g0 m1 g1 m2 g2
                replace MM := Lib.hid (MM.out.only X14.out (by simp) ((((Only.refl p14 v105).set 0 (.int .i64 n)).set 1 (.int .u32 0)).set 2 (.int .u32 0)))
                replace X13 := Lib.hid (X13.out.only (by omega) ((((Only.refl p14 v105).set 0 (.int .i64 n)).set 1 (.int .u32 0)).set 2 (.int .u32 0)))
                replace BV := Lib.hid ((((BV.out).put p14 (by omega) 0 (.int .i64 n)).put p14 (by omega) 1 (.int .u32 0)).put p14 (by omega) 2 (.int .u32 0))
                replace X14 := Lib.hid ((((X14.out).set 0 (.int .i64 n)).set 1 (.int .u32 0)).set 2 (.int .u32 0))
                generalize (World.setCell (World.setCell (World.setCell v105 ⟨p14, 0, none⟩ (.int .i64 n)) ⟨p14, 1, none⟩ (.int .u32 0)) ⟨p14, 2, none⟩ (.int .u32 0)) = v106 at *
                refine hK.out _ _ ?_ (fun hHeld => ?_)
                · exact ⟨(C5.out _ BV.out).1, (C5.out _ BV.out).2, (C8.out _ BV.out).1, (C8.out _ BV.out).2.1, (C8.out _ BV.out).2.2⟩
                clear hK K
                (try simp only [Act.put])
                (try simp only [List.setIfInBounds_toArray])
                (try simp only [List.set_cons_succ])
                (try simp only [List.set_cons_zero])
                refine wpAnyH_ready (rs := [23]) (by kernel_rfl) (by simp) ?_
                refine AllReadyH.cons (o := { dst := some 15, op := Op.assign (Operand.tmp 85), type := 4, pos := "law.go:278", after := #[{ on := 17, ground := Ground.data }, { on := 22, ground := Ground.chain }, { on := 0, ground := Ground.phase }, { on := 1, ground := Ground.phase }, { on := 2, ground := Ground.phase }, { on := 3, ground := Ground.phase }, { on := 4, ground := Ground.phase }, { on := 5, ground := Ground.phase }, { on := 6, ground := Ground.phase }, { on := 7, ground := Ground.phase }, { on := 8, ground := Ground.phase }, { on := 9, ground := Ground.phase }, { on := 10, ground := Ground.phase }, { on := 11, ground := Ground.phase }, { on := 12, ground := Ground.phase }, { on := 13, ground := Ground.phase }, { on := 14, ground := Ground.phase }, { on := 15, ground := Ground.phase }, { on := 16, ground := Ground.phase }, { on := 17, ground := Ground.phase }, { on := 18, ground := Ground.textOnly Departure.lateStores }, { on := 19, ground := Ground.phase }, { on := 20, ground := Ground.phase }, { on := 21, ground := Ground.phase }, { on := 22, ground := Ground.phase }], guard := none }) rfl (fun K hK => ?_) AllReadyH.nil
                go_simp
                refine hK.out _ _ ?_ (fun hHeld => ?_)
                · exact ⟨(C5.out _ BV.out).1, (C5.out _ BV.out).2, (C8.out _ BV.out).1, (C8.out _ BV.out).2.1, (C8.out _ BV.out).2.2⟩
                clear hK K
                (try simp only [Act.put])
                (try simp only [List.setIfInBounds_toArray])
                (try simp only [List.set_cons_succ])
                (try simp only [List.set_cons_zero])
                refine wpAnyH_ready (rs := [24]) (by kernel_rfl) (by simp) ?_
                refine AllReadyH.cons (o := { dst := some 16, op := Op.assign (Operand.tmp 86), type := 32, pos := "law.go:278", after := #[{ on := 18, ground := Ground.data }, { on := 23, ground := Ground.chain }, { on := 0, ground := Ground.phase }, { on := 1, ground := Ground.phase }, { on := 2, ground := Ground.phase }, { on := 3, ground := Ground.phase }, { on := 4, ground := Ground.phase }, { on := 5, ground := Ground.phase }, { on := 6, ground := Ground.phase }, { on := 7, ground := Ground.phase }, { on := 8, ground := Ground.phase }, { on := 9, ground := Ground.phase }, { on := 10, ground := Ground.phase }, { on := 11, ground := Ground.phase }, { on := 12, ground := Ground.phase }, { on := 13, ground := Ground.phase }, { on := 14, ground := Ground.phase }, { on := 15, ground := Ground.phase }, { on := 16, ground := Ground.phase }, { on := 17, ground := Ground.phase }, { on := 18, ground := Ground.phase }, { on := 19, ground := Ground.phase }, { on := 20, ground := Ground.phase }, { on := 21, ground := Ground.phase }, { on := 22, ground := Ground.phase }, { on := 23, ground := Ground.phase }], guard := none }) rfl (fun K hK => ?_) AllReadyH.nil
                go_simp
                refine hK.out _ _ ?_ (fun hHeld => ?_)
                · exact ⟨(C5.out _ BV.out).1, (C5.out _ BV.out).2, (C8.out _ BV.out).1, (C8.out _ BV.out).2.1, (C8.out _ BV.out).2.2⟩
                clear hK K
                (try simp only [Act.put])
                (try simp only [List.setIfInBounds_toArray])
                (try simp only [List.set_cons_succ])
                (try simp only [List.set_cons_zero])
                refine wpAnyH_done (by kernel_rfl) ?_ _
                clear hHeld
                replace MM := Lib.hid (MM.out.imp (D' := (fun b => b ≠ b5 ∧ b ≠ b8 ∧ b ≠ b9)) (fun b hb => by (try simp only [ne_eq] at hb ⊢); omega))
                go_wp2_with fail
                go_meet
                case rel => exact ⟨_, _, _, rfl, rfl, rfl, X13.out, MM.out, BV.out⟩
              refine AllReadyH.cons (o := { dst := some 14, op := Op.alloc 45, type := 0, pos := "law.go:278", after := #[], guard := none }) rfl (fun K hK => ?_) AllReadyH.nil
              go_simp
              have hlt_p14 := BV.out.size
              have MM' := Lib.hid MM.out.addne
              clear MM
              have MM := MM'
              clear MM'
              replace MM := Lib.hid (MM.out.below (below_new v102 (.cells #[.int .i64 0, .int .u32 0, .int .u32 0] 45)))
              replace BV := Lib.hid (BV.out.trans ((below_new v102 (.cells #[.int .i64 0, .int .u32 0, .int .u32 0] 45)).mono BV.out.size))
              have X14 := Lib.hid (Box.new v102 #[.int .i64 0, .int .u32 0, .int .u32 0] 45 rfl)
              generalize World.alloc v102 (.cells #[.int .i64 0, .int .u32 0, .int .u32 0] 45) = v107 at *
              generalize World.heap v102 = hp_p14 at *
              generalize hp_p14.size = p14 at *
              refine hK.out _ _ ?_ (fun hHeld => ?_)
              · exact ⟨(C5.out _ BV.out).1, (C5.out _ BV.out).2, (C8.out _ BV.out).1, (C8.out _ BV.out).2.1, (C8.out _ BV.out).2.2⟩
              clear hK K
              (try simp only [Act.put])
              (try simp only [List.setIfInBounds_toArray])
              (try simp only [List.set_cons_succ])
              (try simp only [List.set_cons_zero])
              refine wpAnyH_ready (rs := [19]) (by kernel_rfl) (by simp) ?_
              refine AllReadyH.cons (o := { dst := some 13, op := Op.alloc 31, type := 0, pos := "law.go:278", after := #[], guard := none }) rfl (fun K hK => ?_) AllReadyH.nil
              go_simp
              have hlt_p13 := BV.out.size
              have hlt_p13_X14 := X14.out.lt
              have MM' := Lib.hid MM.out.addne
              clear MM
              have MM := MM'
              clear MM'
              replace MM := Lib.hid (MM.out.below (below_new v107 (.cells #[.slice none 0 0, .slice none 0 0] 31)))
              replace X14 := Lib.hid (X14.out.below (below_new v107 (.cells #[.slice none 0 0, .slice none 0 0] 31)))
              replace BV := Lib.hid (BV.out.trans ((below_new v107 (.cells #[.slice none 0 0, .slice none 0 0] 31)).mono BV.out.size))
              have X13 := Lib.hid (Box.new v107 #[.slice none 0 0, .slice none 0 0] 31 rfl)
              generalize World.alloc v107 (.cells #[.slice none 0 0, .slice none 0 0] 31) = v108 at *
              generalize World.heap v107 = hp_p13 at *
              generalize hp_p13.size = p13 at *
              refine hK.out _ _ ?_ (fun hHeld => ?_)
              · exact ⟨(C5.out _ BV.out).1, (C5.out _ BV.out).2, (C8.out _ BV.out).1, (C8.out _ BV.out).2.1, (C8.out _ BV.out).2.2⟩
              clear hK K
              (try simp only [Act.put])
              (try simp only [List.setIfInBounds_toArray])
              (try simp only [List.set_cons_succ])
              (try simp only [List.set_cons_zero])
              refine wpAnyH_ready (rs := [21]) (by kernel_rfl) (by simp) ?_
              refine AllReadyH.cons (o := { dst := none, op := Op.store 31 (Operand.tmp 13) (Operand.tmp 83), type := 0, pos := "law.go:278", after := #[{ on := 19, ground := Ground.data }, { on := 15, ground := Ground.data }, { on := 13, ground := Ground.chain }, { on := 0, ground := Ground.phase }, { on := 1, ground := Ground.phase }, { on := 2, ground := Ground.phase }, { on := 3, ground := Ground.phase }, { on := 4, ground := Ground.phase }, { on := 5, ground := Ground.phase }, { on := 6, ground := Ground.phase }, { on := 7, ground := Ground.phase }, { on := 8, ground := Ground.phase }, { on := 9, ground := Ground.phase }, { on := 10, ground := Ground.phase }, { on := 11, ground := Ground.phase }, { on := 12, ground := Ground.phase }, { on := 13, ground := Ground.phase }, { on := 14, ground := Ground.phase }, { on := 15, ground := Ground.phase }, { on := 16, ground := Ground.textOnly Departure.lateStores }, { on := 17, ground := Ground.textOnly Departure.lateStores }, { on := 18, ground := Ground.textOnly Departure.lateStores }, { on := 19, ground := Ground.phase }, { on := 20, ground := Ground.phase }], guard := none }) rfl (fun K hK => ?_) AllReadyH.nil
              obtain ⟨⟨m0, m1⟩, g0, g1⟩ := X13.out.cells2
              go_simp
              clear m0 g0 m1 g1
              replace MM := Lib.hid (MM.out.only X13.out (by simp) (((Only.refl p13 v108).set 0 (.slice z1 3 3)).set 1 (.slice z2 3 3)))
              replace X14 := Lib.hid (X14.out.only (by omega) (((Only.refl p13 v108).set 0 (.slice z1 3 3)).set 1 (.slice z2 3 3)))
              replace BV := Lib.hid (((BV.out).put p13 (by omega) 0 (.slice z1 3 3)).put p13 (by omega) 1 (.slice z2 3 3))
              replace X13 := Lib.hid (((X13.out).set 0 (.slice z1 3 3)).set 1 (.slice z2 3 3))
              generalize (World.setCell (World.setCell v108 ⟨p13, 0, none⟩ (.slice z1 3 3)) ⟨p13, 1, none⟩ (.slice z2 3 3)) = v109 at *
              refine hK.out _ _ ?_ (fun hHeld => ?_)
              · exact ⟨(C5.out _ BV.out).1, (C5.out _ BV.out).2, (C8.out _ BV.out).1, (C8.out _ BV.out).2.1, (C8.out _ BV.out).2.2⟩
              clear hK K
              (try simp only [Act.put])
              (try simp only [List.setIfInBounds_toArray])
              (try simp only [List.set_cons_succ])
              (try simp only [List.set_cons_zero])
              refine wpAnyH_ready (rs := [22]) (by kernel_rfl) (by simp) ?_
              refine AllReadyH.cons (o := { dst := none, op := Op.store 45 (Operand.tmp 14) (Operand.tmp 84), type := 0, pos := "law.go:278", after := #[{ on := 20, ground := Ground.data }, { on := 16, ground := Ground.data }, { on := 21, ground := Ground.chain }, { on := 0, ground := Ground.phase }, { on := 1, ground := Ground.phase }, { on := 2, ground := Ground.phase }, { on := 3, ground := Ground.phase }, { on := 4, ground := Ground.phase }, { on := 5, ground := Ground.phase }, { on := 6, ground := Ground.phase }, { on := 7, ground := Ground.phase }, { on := 8, ground := Ground.phase }, { on := 9, ground := Ground.phase }, { on := 10, ground := Ground.phase }, { on := 11, ground := Ground.phase }, { on := 12, ground := Ground.phase }, { on := 13, ground := Ground.phase }, { on := 14, ground := Ground.phase }, { on := 15, ground := Ground.phase }, { on := 16, ground := Ground.phase }, { on := 17, ground := Ground.textOnly Departure.lateStores }, { on := 18, ground := Ground.textOnly Departure.lateStores }, { on := 19, ground := Ground.phase }, { on := 20, ground := Ground.phase }, { on := 21, ground := Ground.phase }], guard := none }) rfl (fun K hK => ?_) AllReadyH.nil
              obtain ⟨⟨m0, m1, m2⟩, g0, g1, g2⟩ := X14.out.cells3
              go_simp
              clear m0 g0 m1 g1 m2 g2
              replace MM := Lib.hid (MM.out.only X14.out (by simp) ((((Only.refl p14 v109).set 0 (.int .i64 n)).set 1 (.int .u32 0)).set 2 (.int .u32 0)))
              replace X13 := Lib.hid (X13.out.only (by omega) ((((Only.refl p14 v109).set 0 (.int .i64 n)).set 1 (.int .u32 0)).set 2 (.int .u32 0)))
              replace BV := Lib.hid ((((BV.out).put p14 (by omega) 0 (.int .i64 n)).put p14 (by omega) 1 (.int .u32 0)).put p14 (by omega) 2 (.int .u32 0))
              replace X14 := Lib.hid ((((X14.out).set 0 (.int .i64 n)).set 1 (.int .u32 0)).set 2 (.int .u32 0))
              generalize (World.setCell (World.setCell (World.setCell v109 ⟨p14, 0, none⟩ (.int .i64 n)) ⟨p14, 1, none⟩ (.int .u32 0)) ⟨p14, 2, none⟩ (.int .u32 0)) = v110 at *
              refine hK.out _ _ ?_ (fun hHeld => ?_)
              · exact ⟨(C5.out _ BV.out).1, (C5.out _ BV.out).2, (C8.out _ BV.out).1, (C8.out _ BV.out).2.1, (C8.out _ BV.out).2.2⟩
              clear hK K
              (try simp only [Act.put])
              (try simp only [List.setIfInBounds_toArray])
              (try simp only [List.set_cons_succ])
              (try simp only [List.set_cons_zero])
              refine wpAnyH_ready (rs := [23]) (by kernel_rfl) (by simp) ?_
              refine AllReadyH.cons (o := { dst := some 15, op := Op.assign (Operand.tmp 85), type := 4, pos := "law.go:278", after := #[{ on := 17, ground := Ground.data }, { on := 22, ground := Ground.chain }, { on := 0, ground := Ground.phase }, { on := 1, ground := Ground.phase }, { on := 2, ground := Ground.phase }, { on := 3, ground := Ground.phase }, { on := 4, ground := Ground.phase }, { on := 5, ground := Ground.phase }, { on := 6, ground := Ground.phase }, { on := 7, ground := Ground.phase }, { on := 8, ground := Ground.phase }, { on := 9, ground := Ground.phase }, { on := 10, ground := Ground.phase }, { on := 11, ground := Ground.phase }, { on := 12, ground := Ground.phase }, { on := 13, ground := Ground.phase }, { on := 14, ground := Ground.phase }, { on := 15, ground := Ground.phase }, { on := 16, ground := Ground.phase }, { on := 17, ground := Ground.phase }, { on := 18, ground := Ground.textOnly Departure.lateStores }, { on := 19, ground := Ground.phase }, { on := 20, ground := Ground.phase }, { on := 21, ground := Ground.phase }, { on := 22, ground := Ground.phase }], guard := none }) rfl (fun K hK => ?_) AllReadyH.nil
              go_simp
              refine hK.out _ _ ?_ (fun hHeld => ?_)
              · exact ⟨(C5.out _ BV.out).1, (C5.out _ BV.out).2, (C8.out _ BV.out).1, (C8.out _ BV.out).2.1, (C8.out _ BV.out).2.2⟩
              clear hK K
              (try simp only [Act.put])
              (try simp only [List.setIfInBounds_toArray])
              (try simp only [List.set_cons_succ])
              (try simp only [List.set_cons_zero])
              refine wpAnyH_ready (rs := [24]) (by kernel_rfl) (by simp) ?_
              refine AllReadyH.cons (o := { dst := some 16, op := Op.assign (Operand.tmp 86), type := 32, pos := "law.go:278", after := #[{ on := 18, ground := Ground.data }, { on := 23, ground := Ground.chain }, { on := 0, ground := Ground.phase }, { on := 1, ground := Ground.phase }, { on := 2, ground := Ground.phase }, { on := 3, ground := Ground.phase }, { on := 4, ground := Ground.phase }, { on := 5, ground := Ground.phase }, { on := 6, ground := Ground.phase }, { on := 7, ground := Ground.phase }, { on := 8, ground := Ground.phase }, { on := 9, ground := Ground.phase }, { on := 10, ground := Ground.phase }, { on := 11, ground := Ground.phase }, { on := 12, ground := Ground.phase }, { on := 13, ground := Ground.phase }, { on := 14, ground := Ground.phase }, { on := 15, ground := Ground.phase }, { on := 16, ground := Ground.phase }, { on := 17, ground := Ground.phase }, { on := 18, ground := Ground.phase }, { on := 19, ground := Ground.phase }, { on := 20, ground := Ground.phase }, { on := 21, ground := Ground.phase }, { on := 22, ground := Ground.phase }, { on := 23, ground := Ground.phase }], guard := none }) rfl (fun K hK => ?_) AllReadyH.nil
              go_simp
              refine hK.out _ _ ?_ (fun hHeld => ?_)
              · exact ⟨(C5.out _ BV.out).1, (C5.out _ BV.out).2, (C8.out _ BV.out).1, (C8.out _ BV.out).2.1, (C8.out _ BV.out).2.2⟩
              clear hK K
              (try simp only [Act.put])
              (try simp only [List.setIfInBounds_toArray])
              (try simp only [List.set_cons_succ])
              (try simp only [List.set_cons_zero])
              refine wpAnyH_done (by kernel_rfl) ?_ _
              clear hHeld
              replace MM := Lib.hid (MM.out.imp (D' := (fun b => b ≠ b5 ∧ b ≠ b8 ∧ b ≠ b9)) (fun b hb => by (try simp only [ne_eq] at hb ⊢); omega))
              go_wp2_with fail
              go_meet
              case rel => exact ⟨_, _, _, rfl, rfl, rfl, X13.out, MM.out, BV.out⟩
            refine AllReadyH.cons (o := { dst := some 13, op := Op.alloc 31, type := 0, pos := "law.go:278", after := #[], guard := none }) rfl (fun K hK => ?_) ?_
            · skip
              go_simp
              have hlt_p13 := BV.out.size
              have MM' := Lib.hid MM.out.addne
              clear MM
              have MM := MM'
              clear MM'
              replace MM := Lib.hid (MM.out.below (below_new v101 (.cells #[.slice none 0 0, .slice none 0 0] 31)))
              replace BV := Lib.hid (BV.out.trans ((below_new v101 (.cells #[.slice none 0 0, .slice none 0 0] 31)).mono BV.out.size))
              have X13 := Lib.hid (Box.new v101 #[.slice none 0 0, .slice none 0 0] 31 rfl)
              generalize World.alloc v101 (.cells #[.slice none 0 0, .slice none 0 0] 31) = v111 at *
              generalize World.heap v101 = hp_p13 at *
              generalize hp_p13.size = p13 at *
              refine hK.out _ _ ?_ (fun hHeld => ?_)
              · exact ⟨(C5.out _ BV.out).1, (C5.out _ BV.out).2, (C8.out _ BV.out).1, (C8.out _ BV.out).2.1, (C8.out _ BV.out).2.2⟩
              clear hK K
              (try simp only [Act.put])
              (try simp only [List.setIfInBounds_toArray])
              (try simp only [List.set_cons_succ])
              (try simp only [List.set_cons_zero])
              refine wpAnyH_ready (rs := [13, 20]) (by kernel_rfl) (by simp) ?_
              refine AllReadyH.cons (o := { dst := some 82, op := Op.call { callee := Callee.value (Operand.func 28), args := #[Operand.tmp 69, Operand.tmp 71, Operand.tmp 72, Operand.tmp 75, Operand.tmp 81], argTypes := #[31, 3, 42, 45, 45] }, type := 50, pos := "law.go:278", after := #[{ on := 0, ground := Ground.data }, { on := 2, ground := Ground.data }, { on := 3, ground := Ground.data }, { on := 6, ground := Ground.data }, { on := 12, ground := Ground.data }, { on := 12, ground := Ground.chain }], guard := none }) rfl (fun K hK => ?_) ?_
              · skip
                go_simp
                go_at_call 28
                have hl_b := BV.out.size
                have hl_X13 := X13.out.lt
                refine (SW.out _ _ MM.out).mono ?_
                rintro e v112 ⟨z1, z2, rfl, hmx, hb⟩
                replace MM := Lib.hid (hmx.imp (D' := (fun b => b ≠ b5 ∧ b ≠ b8 ∧ b ≠ b9 ∧ b ≠ p13)) (fun b hb => by rcases hb with hb | hb <;> (try simp only [ne_eq] at hb ⊢) <;> omega))
                clear hmx hl_b hl_X13
                replace X13 := Lib.hid (X13.out.below (hb))
                replace BV := Lib.hid (BV.out.trans ((hb).mono BV.out.size))
                clear hb
                go_simp
                refine hK.out _ _ ?_ (fun hHeld => ?_)
                · exact ⟨(C5.out _ BV.out).1, (C5.out _ BV.out).2, (C8.out _ BV.out).1, (C8.out _ BV.out).2.1, (C8.out _ BV.out).2.2⟩
                clear hK K
                (try simp only [Act.put])
                (try simp only [List.setIfInBounds_toArray])
                (try simp only [List.set_cons_succ])
                (try simp only [List.set_cons_zero])
                refine wpAnyH_take (i := 14) (oi := { dst := some 68, op := Op.move (Operand.tmp 82), type := 50, pos := "law.go:278", after := #[{ on := 13, ground := Ground.data }], guard := none }) (v := ?d113_18xv14) rfl (by kernel_rfl) (by kernel_rfl) (by kernel_rfl) (fun _ _ _ h => h) (Or.inl ⟨by rfl, ?d113_18xy14⟩) (by assumption) ?d113_18xr14
                case d113_18xy14 => (intro w hSw; (try dsimp only at hSw); go_simp; try with_reducible rfl)
                (try simp only [Act.put])
                (try simp only [List.setIfInBounds_toArray])
                (try simp only [List.set_cons_succ])
                (try simp only [List.set_cons_zero])
                refine wpAnyH_take (i := 15) (oi := { dst := some 83, op := Op.extract (Operand.tmp 68) 0, type := 31, pos := "law.go:278", after := #[{ on := 14, ground := Ground.data }], guard := none }) (v := ?d113_19xv15) rfl (by kernel_rfl) (by kernel_rfl) (by kernel_rfl) (fun _ _ _ h => h) (Or.inl ⟨by rfl, ?d113_19xy15⟩) (by assumption) ?d113_19xr15
                case d113_19xy15 => (intro w hSw; (try dsimp only at hSw); go_simp; try with_reducible rfl)
                (try simp only [Act.put])
                (try simp only [List.setIfInBounds_toArray])
                (try simp only [List.set_cons_succ])
                (try simp only [List.set_cons_zero])
                refine wpAnyH_take (i := 16) (oi := { dst := some 84, op := Op.extract (Operand.tmp 68) 1, type := 45, pos := "law.go:278", after := #[{ on := 14, ground := Ground.data }, { on := 21, ground := Ground.gcOnly Departure.lateStores }], guard := none }) (v := ?d113_20xv16) rfl (by kernel_rfl) (by kernel_rfl) (by kernel_rfl) (fun _ _ _ h => h) (Or.inl ⟨by rfl, ?d113_20xy16⟩) (by assumption) ?d113_20xr16
                case d113_20xy16 => (intro w hSw; (try dsimp only at hSw); go_simp; try with_reducible rfl)
                (try simp only [Act.put])
                (try simp only [List.setIfInBounds_toArray])
                (try simp only [List.set_cons_succ])
                (try simp only [List.set_cons_zero])
                refine wpAnyH_take (i := 17) (oi := { dst := some 85, op := Op.extract (Operand.tmp 68) 2, type := 4, pos := "law.go:278", after := #[{ on := 14, ground := Ground.data }, { on := 22, ground := Ground.gcOnly Departure.lateStores }], guard := none }) (v := ?d113_21xv17) rfl (by kernel_rfl) (by kernel_rfl) (by kernel_rfl) (fun _ _ _ h => h) (Or.inl ⟨by rfl, ?d113_21xy17⟩) (by assumption) ?d113_21xr17
                case d113_21xy17 => (intro w hSw; (try dsimp only at hSw); go_simp; try with_reducible rfl)
                (try simp only [Act.put])
                (try simp only [List.setIfInBounds_toArray])
                (try simp only [List.set_cons_succ])
                (try simp only [List.set_cons_zero])
                refine wpAnyH_take (i := 18) (oi := { dst := some 86, op := Op.extract (Operand.tmp 68) 3, type := 32, pos := "law.go:278", after := #[{ on := 14, ground := Ground.data }, { on := 23, ground := Ground.gcOnly Departure.lateStores }], guard := none }) (v := ?d113_22xv18) rfl (by kernel_rfl) (by kernel_rfl) (by kernel_rfl) (fun _ _ _ h => h) (Or.inl ⟨by rfl, ?d113_22xy18⟩) (by assumption) ?d113_22xr18
                case d113_22xy18 => (intro w hSw; (try dsimp only at hSw); go_simp; try with_reducible rfl)
                (try simp only [Act.put])
                (try simp only [List.setIfInBounds_toArray])
                (try simp only [List.set_cons_succ])
                (try simp only [List.set_cons_zero])
                refine wpAnyH_ready (rs := [20]) (by kernel_rfl) (by simp) ?_
                refine AllReadyH.cons (o := { dst := some 14, op := Op.alloc 45, type := 0, pos := "law.go:278", after := #[], guard := none }) rfl (fun K hK => ?_) AllReadyH.nil
                go_simp
                have hlt_p14 := BV.out.size
                have hlt_p14_X13 := X13.out.lt
                have MM' := Lib.hid MM.out.addne
                clear MM
                have MM := MM'
                clear MM'
                replace X13 := Lib.hid (X13.out.below (below_new v112 (.cells #[.int .i64 0, .int .u32 0, .int .u32 0] 45)))
                replace MM := Lib.hid (MM.out.below (below_new v112 (.cells #[.int .i64 0, .int .u32 0, .int .u32 0] 45)))
                replace BV := Lib.hid (BV.out.trans ((below_new v112 (.cells #[.int .i64 0, .int .u32 0, .int .u32 0] 45)).mono BV.out.size))
                have X14 := Lib.hid (Box.new v112 #[.int .i64 0, .int .u32 0, .int .u32 0] 45 rfl)
                generalize World.alloc v112 (.cells #[.int .i64 0, .int .u32 0, .int .u32 0] 45) = v113 at *
                generalize World.heap v112 = hp_p14 at *
                generalize hp_p14.size = p14 at *
                refine hK.out _ _ ?_ (fun hHeld => ?_)
                · exact ⟨(C5.out _ BV.out).1, (C5.out _ BV.out).2, (C8.out _ BV.out).1, (C8.out _ BV.out).2.1, (C8.out _ BV.out).2.2⟩
                clear hK K
                (try simp only [Act.put])
                (try simp only [List.setIfInBounds_toArray])
                (try simp only [List.set_cons_succ])
                (try simp only [List.set_cons_zero])
                refine wpAnyH_ready (rs := [21]) (by kernel_rfl) (by simp) ?_
                refine AllReadyH.cons (o := { dst := none, op := Op.store 31 (Operand.tmp 13) (Operand.tmp 83), type := 0, pos := "law.go:278", after := #[{ on := 19, ground := Ground.data }, { on := 15, ground := Ground.data }, { on := 13, ground := Ground.chain }, { on := 0, ground := Ground.phase }, { on := 1, ground := Ground.phase }, { on := 2, ground := Ground.phase }, { on := 3, ground := Ground.phase }, { on := 4, ground := Ground.phase }, { on := 5, ground := Ground.phase }, { on := 6, ground := Ground.phase }, { on := 7, ground := Ground.phase }, { on := 8, ground := Ground.phase }, { on := 9, ground := Ground.phase }, { on := 10, ground := Ground.phase }, { on := 11, ground := Ground.phase }, { on := 12, ground := Ground.phase }, { on := 13, ground := Ground.phase }, { on := 14, ground := Ground.phase }, { on := 15, ground := Ground.phase }, { on := 16, ground := Ground.textOnly Departure.lateStores }, { on := 17, ground := Ground.textOnly Departure.lateStores }, { on := 18, ground := Ground.textOnly Departure.lateStores }, { on := 19, ground := Ground.phase }, { on := 20, ground := Ground.phase }], guard := none }) rfl (fun K hK => ?_) AllReadyH.nil
                obtain ⟨⟨m0, m1⟩, g0, g1⟩ := X13.out.cells2
                go_simp
                clear m0 g0 m1 g1
                replace MM := Lib.hid (MM.out.only X13.out (by simp) (((Only.refl p13 v113).set 0 (.slice z1 3 3)).set 1 (.slice z2 3 3)))
                replace X14 := Lib.hid (X14.out.only (by omega) (((Only.refl p13 v113).set 0 (.slice z1 3 3)).set 1 (.slice z2 3 3)))
                replace BV := Lib.hid (((BV.out).put p13 (by omega) 0 (.slice z1 3 3)).put p13 (by omega) 1 (.slice z2 3 3))
                replace X13 := Lib.hid (((X13.out).set 0 (.slice z1 3 3)).set 1 (.slice z2 3 3))
                generalize (World.setCell (World.setCell v113 ⟨p13, 0, none⟩ (.slice z1 3 3)) ⟨p13, 1, none⟩ (.slice z2 3 3)) = v114 at *
                refine hK.out _ _ ?_ (fun hHeld => ?_)
                · exact ⟨(C5.out _ BV.out).1, (C5.out _ BV.out).2, (C8.out _ BV.out).1, (C8.out _ BV.out).2.1, (C8.out _ BV.out).2.2⟩
                clear hK K
                (try simp only [Act.put])
                (try simp only [List.setIfInBounds_toArray])
                (try simp only [List.set_cons_succ])
                (try simp only [List.set_cons_zero])
                refine wpAnyH_ready (rs := [22]) (by kernel_rfl) (by simp) ?_
                refine AllReadyH.cons (o := { dst := none, op := Op.store 45 (Operand.tmp 14) (Operand.tmp 84), type := 0, pos := "law.go:278", after := #[{ on := 20, ground := Ground.data }, { on := 16, ground := Ground.data }, { on := 21, ground := Ground.chain }, { on := 0, ground := Ground.phase }, { on := 1, ground := Ground.phase }, { on := 2, ground := Ground.phase }, { on := 3, ground := Ground.phase }, { on := 4, ground := Ground.phase }, { on := 5, ground := Ground.phase }, { on := 6, ground := Ground.phase }, { on := 7, ground := Ground.phase }, { on := 8, ground := Ground.phase }, { on := 9, ground := Ground.phase }, { on := 10, ground := Ground.phase }, { on := 11, ground := Ground.phase }, { on := 12, ground := Ground.phase }, { on := 13, ground := Ground.phase }, { on := 14, ground := Ground.phase }, { on := 15, ground := Ground.phase }, { on := 16, ground := Ground.phase }, { on := 17, ground := Ground.textOnly Departure.lateStores }, { on := 18, ground := Ground.textOnly Departure.lateStores }, { on := 19, ground := Ground.phase }, { on := 20, ground := Ground.phase }, { on := 21, ground := Ground.phase }], guard := none }) rfl (fun K hK => ?_) AllReadyH.nil
                obtain ⟨⟨m0, m1, m2⟩, g0, g1, g2⟩ := X14.out.cells3
                go_simp
                clear m0 g0 m1 g1 m2 g2
                replace X13 := Lib.hid (X13.out.only (by omega) ((((Only.refl p14 v114).set 0 (.int .i64 n)).set 1 (.int .u32 0)).set 2 (.int .u32 0)))
                replace MM := Lib.hid (MM.out.only X14.out (by simp) ((((Only.refl p14 v114).set 0 (.int .i64 n)).set 1 (.int .u32 0)).set 2 (.int .u32 0)))
                replace BV := Lib.hid ((((BV.out).put p14 (by omega) 0 (.int .i64 n)).put p14 (by omega) 1 (.int .u32 0)).put p14 (by omega) 2 (.int .u32 0))
                replace X14 := Lib.hid ((((X14.out).set 0 (.int .i64 n)).set 1 (.int .u32 0)).set 2 (.int .u32 0))
                generalize (World.setCell (World.setCell (World.setCell v114 ⟨p14, 0, none⟩ (.int .i64 n)) ⟨p14, 1, none⟩ (.int .u32 0)) ⟨p14, 2, none⟩ (.int .u32 0)) = v115 at *
                refine hK.out _ _ ?_ (fun hHeld => ?_)
                · exact ⟨(C5.out _ BV.out).1, (C5.out _ BV.out).2, (C8.out _ BV.out).1, (C8.out _ BV.out).2.1, (C8.out _ BV.out).2.2⟩
                clear hK K
                (try simp only [Act.put])
                (try simp only [List.setIfInBounds_toArray])
                (try simp only [List.set_cons_succ])
                (try simp only [List.set_cons_zero])
                refine wpAnyH_ready (rs := [23]) (by kernel_rfl) (by simp) ?_
                refine AllReadyH.cons (o := { dst := some 15, op := Op.assign (Operand.tmp 85), type := 4, pos := "law.go:278", after := #[{ on := 17, ground := Ground.data }, { on := 22, ground := Ground.chain }, { on := 0, ground := Ground.phase }, { on := 1, ground := Ground.phase }, { on := 2, ground := Ground.phase }, { on := 3, ground := Ground.phase }, { on := 4, ground := Ground.phase }, { on := 5, ground := Ground.phase }, { on := 6, ground := Ground.phase }, { on := 7, ground := Ground.phase }, { on := 8, ground := Ground.phase }, { on := 9, ground := Ground.phase }, { on := 10, ground := Ground.phase }, { on := 11, ground := Ground.phase }, { on := 12, ground := Ground.phase }, { on := 13, ground := Ground.phase }, { on := 14, ground := Ground.phase }, { on := 15, ground := Ground.phase }, { on := 16, ground := Ground.phase }, { on := 17, ground := Ground.phase }, { on := 18, ground := Ground.textOnly Departure.lateStores }, { on := 19, ground := Ground.phase }, { on := 20, ground := Ground.phase }, { on := 21, ground := Ground.phase }, { on := 22, ground := Ground.phase }], guard := none }) rfl (fun K hK => ?_) AllReadyH.nil
                go_simp
                refine hK.out _ _ ?_ (fun hHeld => ?_)
                · exact ⟨(C5.out _ BV.out).1, (C5.out _ BV.out).2, (C8.out _ BV.out).1, (C8.out _ BV.out).2.1, (C8.out _ BV.out).2.2⟩
                clear hK K
                (try simp only [Act.put])
                (try simp only [List.setIfInBounds_toArray])
                (try simp only [List.set_cons_succ])
                (try simp only [List.set_cons_zero])
                refine wpAnyH_ready (rs := [24]) (by kernel_rfl) (by simp) ?_
                refine AllReadyH.cons (o := { dst := some 16, op := Op.assign (Operand.tmp 86), type := 32, pos := "law.go:278", after := #[{ on := 18, ground := Ground.data }, { on := 23, ground := Ground.chain }, { on := 0, ground := Ground.phase }, { on := 1, ground := Ground.phase }, { on := 2, ground := Ground.phase }, { on := 3, ground := Ground.phase }, { on := 4, ground := Ground.phase }, { on := 5, ground := Ground.phase }, { on := 6, ground := Ground.phase }, { on := 7, ground := Ground.phase }, { on := 8, ground := Ground.phase }, { on := 9, ground := Ground.phase }, { on := 10, ground := Ground.phase }, { on := 11, ground := Ground.phase }, { on := 12, ground := Ground.phase }, { on := 13, ground := Ground.phase }, { on := 14, ground := Ground.phase }, { on := 15, ground := Ground.phase }, { on := 16, ground := Ground.phase }, { on := 17, ground := Ground.phase }, { on := 18, ground := Ground.phase }, { on := 19, ground := Ground.phase }, { on := 20, ground := Ground.phase }, { on := 21, ground := Ground.phase }, { on := 22, ground := Ground.phase }, { on := 23, ground := Ground.phase }], guard := none }) rfl (fun K hK => ?_) AllReadyH.nil
                go_simp
                refine hK.out _ _ ?_ (fun hHeld => ?_)
                · exact ⟨(C5.out _ BV.out).1, (C5.out _ BV.out).2, (C8.out _ BV.out).1, (C8.out _ BV.out).2.1, (C8.out _ BV.out).2.2⟩
                clear hK K
                (try simp only [Act.put])
                (try simp only [List.setIfInBounds_toArray])
                (try simp only [List.set_cons_succ])
                (try simp only [List.set_cons_zero])
                refine wpAnyH_done (by kernel_rfl) ?_ _
                clear hHeld
                replace MM := Lib.hid (MM.out.imp (D' := (fun b => b ≠ b5 ∧ b ≠ b8 ∧ b ≠ b9)) (fun b hb => by (try simp only [ne_eq] at hb ⊢); omega))
                go_wp2_with fail
                go_meet
                case rel => exact ⟨_, _, _, rfl, rfl, rfl, X13.out, MM.out, BV.out⟩
              refine AllReadyH.cons (o := { dst := some 14, op := Op.alloc 45, type := 0, pos := "law.go:278", after := #[], guard := none }) rfl (fun K hK => ?_) AllReadyH.nil
              go_simp
              have hlt_p14 := BV.out.size
              have hlt_p14_X13 := X13.out.lt
              have MM' := Lib.hid MM.out.addne
              clear MM
              have MM := MM'
              clear MM'
              replace MM := Lib.hid (MM.out.below (below_new v111 (.cells #[.int .i64 0, .int .u32 0, .int .u32 0] 45)))
              replace X13 := Lib.hid (X13.out.below (below_new v111 (.cells #[.int .i64 0, .int .u32 0, .int .u32 0] 45)))
              replace BV := Lib.hid (BV.out.trans ((below_new v111 (.cells #[.int .i64 0, .int .u32 0, .int .u32 0] 45)).mono BV.out.size))
              have X14 := Lib.hid (Box.new v111 #[.int .i64 0, .int .u32 0, .int .u32 0] 45 rfl)
              generalize World.alloc v111 (.cells #[.int .i64 0, .int .u32 0, .int .u32 0] 45) = v116 at *
              generalize World.heap v111 = hp_p14 at *
              generalize hp_p14.size = p14 at *
              refine hK.out _ _ ?_ (fun hHeld => ?_)
              · exact ⟨(C5.out _ BV.out).1, (C5.out _ BV.out).2, (C8.out _ BV.out).1, (C8.out _ BV.out).2.1, (C8.out _ BV.out).2.2⟩
              clear hK K
              (try simp only [Act.put])
              (try simp only [List.setIfInBounds_toArray])
              (try simp only [List.set_cons_succ])
              (try simp only [List.set_cons_zero])
              refine wpAnyH_ready (rs := [13]) (by kernel_rfl) (by simp) ?_
              refine AllReadyH.cons (o := { dst := some 82, op := Op.call { callee := Callee.value (Operand.func 28), args := #[Operand.tmp 69, Operand.tmp 71, Operand.tmp 72, Operand.tmp 75, Operand.tmp 81], argTypes := #[31, 3, 42, 45, 45] }, type := 50, pos := "law.go:278", after := #[{ on := 0, ground := Ground.data }, { on := 2, ground := Ground.data }, { on := 3, ground := Ground.data }, { on := 6, ground := Ground.data }, { on := 12, ground := Ground.data }, { on := 12, ground := Ground.chain }], guard := none }) rfl (fun K hK => ?_) AllReadyH.nil
              go_simp
              go_at_call 28
              have hl_b := BV.out.size
              have hl_X13 := X13.out.lt
              have hl_X14 := X14.out.lt
              refine (SW.out _ _ MM.out).mono ?_
              rintro e v117 ⟨z1, z2, rfl, hmx, hb⟩
              replace MM := Lib.hid (hmx.imp (D' := (fun b => b ≠ b5 ∧ b ≠ b8 ∧ b ≠ b9 ∧ b ≠ p13 ∧ b ≠ p14)) (fun b hb => by rcases hb with hb | hb <;> (try simp only [ne_eq] at hb ⊢) <;> omega))
              clear hmx hl_b hl_X13 hl_X14
              replace X13 := Lib.hid (X13.out.below (hb))
              replace X14 := Lib.hid (X14.out.below (hb))
              replace BV := Lib.hid (BV.out.trans ((hb).mono BV.out.size))
              clear hb
              go_simp
              refine hK.out _ _ ?_ (fun hHeld => ?_)
              · exact ⟨(C5.out _ BV.out).1, (C5.out _ BV.out).2, (C8.out _ BV.out).1, (C8.out _ BV.out).2.1, (C8.out _ BV.out).2.2⟩
              clear hK K
              (try simp only [Act.put])
              (try simp only [List.setIfInBounds_toArray])
              (try simp only [List.set_cons_succ])
              (try simp only [List.set_cons_zero])
              refine wpAnyH_take (i := 14) (oi := { dst := some 68, op := Op.move (Operand.tmp 82), type := 50, pos := "law.go:278", after := #[{ on := 13, ground := Ground.data }], guard := none }) (v := ?d118_23xv14) rfl (by kernel_rfl) (by kernel_rfl) (by kernel_rfl) (fun _ _ _ h => h) (Or.inl ⟨by rfl, ?d118_23xy14⟩) (by assumption) ?d118_23xr14
              case d118_23xy14 => (intro w hSw; (try dsimp only at hSw); go_simp; try with_reducible rfl)
              (try simp only [Act.put])
              (try simp only [List.setIfInBounds_toArray])
              (try simp only [List.set_cons_succ])
              (try simp only [List.set_cons_zero])
              refine wpAnyH_take (i := 15) (oi := { dst := some 83, op := Op.extract (Operand.tmp 68) 0, type := 31, pos := "law.go:278", after := #[{ on := 14, ground := Ground.data }], guard := none }) (v := ?d118_24xv15) rfl (by kernel_rfl) (by kernel_rfl) (by kernel_rfl) (fun _ _ _ h => h) (Or.inl ⟨by rfl, ?d118_24xy15⟩) (by assumption) ?d118_24xr15
              case d118_24xy15 => (intro w hSw; (try dsimp only at hSw); go_simp; try with_reducible rfl)
              (try simp only [Act.put])
              (try simp only [List.setIfInBounds_toArray])
              (try simp only [List.set_cons_succ])
              (try simp only [List.set_cons_zero])
              refine wpAnyH_take (i := 16) (oi := { dst := some 84, op := Op.extract (Operand.tmp 68) 1, type := 45, pos := "law.go:278", after := #[{ on := 14, ground := Ground.data }, { on := 21, ground := Ground.gcOnly Departure.lateStores }], guard := none }) (v := ?d118_25xv16) rfl (by kernel_rfl) (by kernel_rfl) (by kernel_rfl) (fun _ _ _ h => h) (Or.inl ⟨by rfl, ?d118_25xy16⟩) (by assumption) ?d118_25xr16
              case d118_25xy16 => (intro w hSw; (try dsimp only at hSw); go_simp; try with_reducible rfl)
              (try simp only [Act.put])
              (try simp only [List.setIfInBounds_toArray])
              (try simp only [List.set_cons_succ])
              (try simp only [List.set_cons_zero])
              refine wpAnyH_take (i := 17) (oi := { dst := some 85, op := Op.extract (Operand.tmp 68) 2, type := 4, pos := "law.go:278", after := #[{ on := 14, ground := Ground.data }, { on := 22, ground := Ground.gcOnly Departure.lateStores }], guard := none }) (v := ?d118_26xv17) rfl (by kernel_rfl) (by kernel_rfl) (by kernel_rfl) (fun _ _ _ h => h) (Or.inl ⟨by rfl, ?d118_26xy17⟩) (by assumption) ?d118_26xr17
              case d118_26xy17 => (intro w hSw; (try dsimp only at hSw); go_simp; try with_reducible rfl)
              (try simp only [Act.put])
              (try simp only [List.setIfInBounds_toArray])
              (try simp only [List.set_cons_succ])
              (try simp only [List.set_cons_zero])
              refine wpAnyH_take (i := 18) (oi := { dst := some 86, op := Op.extract (Operand.tmp 68) 3, type := 32, pos := "law.go:278", after := #[{ on := 14, ground := Ground.data }, { on := 23, ground := Ground.gcOnly Departure.lateStores }], guard := none }) (v := ?d118_27xv18) rfl (by kernel_rfl) (by kernel_rfl) (by kernel_rfl) (fun _ _ _ h => h) (Or.inl ⟨by rfl, ?d118_27xy18⟩) (by assumption) ?d118_27xr18
              case d118_27xy18 => (intro w hSw; (try dsimp only at hSw); go_simp; try with_reducible rfl)
              (try simp only [Act.put])
              (try simp only [List.setIfInBounds_toArray])
              (try simp only [List.set_cons_succ])
              (try simp only [List.set_cons_zero])
              refine wpAnyH_ready (rs := [21]) (by kernel_rfl) (by simp) ?_
              refine AllReadyH.cons (o := { dst := none, op := Op.store 31 (Operand.tmp 13) (Operand.tmp 83), type := 0, pos := "law.go:278", after := #[{ on := 19, ground := Ground.data }, { on := 15, ground := Ground.data }, { on := 13, ground := Ground.chain }, { on := 0, ground := Ground.phase }, { on := 1, ground := Ground.phase }, { on := 2, ground := Ground.phase }, { on := 3, ground := Ground.phase }, { on := 4, ground := Ground.phase }, { on := 5, ground := Ground.phase }, { on := 6, ground := Ground.phase }, { on := 7, ground := Ground.phase }, { on := 8, ground := Ground.phase }, { on := 9, ground := Ground.phase }, { on := 10, ground := Ground.phase }, { on := 11, ground := Ground.phase }, { on := 12, ground := Ground.phase }, { on := 13, ground := Ground.phase }, { on := 14, ground := Ground.phase }, { on := 15, ground := Ground.phase }, { on := 16, ground := Ground.textOnly Departure.lateStores }, { on := 17, ground := Ground.textOnly Departure.lateStores }, { on := 18, ground := Ground.textOnly Departure.lateStores }, { on := 19, ground := Ground.phase }, { on := 20, ground := Ground.phase }], guard := none }) rfl (fun K hK => ?_) AllReadyH.nil
              obtain ⟨⟨m0, m1⟩, g0, g1⟩ := X13.out.cells2
              go_simp
              clear m0 g0 m1 g1
              replace X14 := Lib.hid (X14.out.only (by omega) (((Only.refl p13 v117).set 0 (.slice z1 3 3)).set 1 (.slice z2 3 3)))
              replace MM := Lib.hid (MM.out.only X13.out (by simp) (((Only.refl p13 v117).set 0 (.slice z1 3 3)).set 1 (.slice z2 3 3)))
              replace BV := Lib.hid (((BV.out).put p13 (by omega) 0 (.slice z1 3 3)).put p13 (by omega) 1 (.slice z2 3 3))
              replace X13 := Lib.hid (((X13.out).set 0 (.slice z1 3 3)).set 1 (.slice z2 3 3))
              generalize (World.setCell (World.setCell v117 ⟨p13, 0, none⟩ (.slice z1 3 3)) ⟨p13, 1, none⟩ (.slice z2 3 3)) = v118 at *
              refine hK.out _ _ ?_ (fun hHeld => ?_)
              · exact ⟨(C5.out _ BV.out).1, (C5.out _ BV.out).2, (C8.out _ BV.out).1, (C8.out _ BV.out).2.1, (C8.out _ BV.out).2.2⟩
              clear hK K
              (try simp only [Act.put])
              (try simp only [List.setIfInBounds_toArray])
              (try simp only [List.set_cons_succ])
              (try simp only [List.set_cons_zero])
              refine wpAnyH_ready (rs := [22]) (by kernel_rfl) (by simp) ?_
              refine AllReadyH.cons (o := { dst := none, op := Op.store 45 (Operand.tmp 14) (Operand.tmp 84), type := 0, pos := "law.go:278", after := #[{ on := 20, ground := Ground.data }, { on := 16, ground := Ground.data }, { on := 21, ground := Ground.chain }, { on := 0, ground := Ground.phase }, { on := 1, ground := Ground.phase }, { on := 2, ground := Ground.phase }, { on := 3, ground := Ground.phase }, { on := 4, ground := Ground.phase }, { on := 5, ground := Ground.phase }, { on := 6, ground := Ground.phase }, { on := 7, ground := Ground.phase }, { on := 8, ground := Ground.phase }, { on := 9, ground := Ground.phase }, { on := 10, ground := Ground.phase }, { on := 11, ground := Ground.phase }, { on := 12, ground := Ground.phase }, { on := 13, ground := Ground.phase }, { on := 14, ground := Ground.phase }, { on := 15, ground := Ground.phase }, { on := 16, ground := Ground.phase }, { on := 17, ground := Ground.textOnly Departure.lateStores }, { on := 18, ground := Ground.textOnly Departure.lateStores }, { on := 19, ground := Ground.phase }, { on := 20, ground := Ground.phase }, { on := 21, ground := Ground.phase }], guard := none }) rfl (fun K hK => ?_) AllReadyH.nil
              obtain ⟨⟨m0, m1, m2⟩, g0, g1, g2⟩ := X14.out.cells3
              go_simp
              clear m0 g0 m1 g1 m2 g2
              replace X13 := Lib.hid (X13.out.only (by omega) ((((Only.refl p14 v118).set 0 (.int .i64 n)).set 1 (.int .u32 0)).set 2 (.int .u32 0)))
              replace MM := Lib.hid (MM.out.only X14.out (by simp) ((((Only.refl p14 v118).set 0 (.int .i64 n)).set 1 (.int .u32 0)).set 2 (.int .u32 0)))
              replace BV := Lib.hid ((((BV.out).put p14 (by omega) 0 (.int .i64 n)).put p14 (by omega) 1 (.int .u32 0)).put p14 (by omega) 2 (.int .u32 0))
              replace X14 := Lib.hid ((((X14.out).set 0 (.int .i64 n)).set 1 (.int .u32 0)).set 2 (.int .u32 0))
              generalize (World.setCell (World.setCell (World.setCell v118 ⟨p14, 0, none⟩ (.int .i64 n)) ⟨p14, 1, none⟩ (.int .u32 0)) ⟨p14, 2, none⟩ (.int .u32 0)) = v119 at *
              refine hK.out _ _ ?_ (fun hHeld => ?_)
              · exact ⟨(C5.out _ BV.out).1, (C5.out _ BV.out).2, (C8.out _ BV.out).1, (C8.out _ BV.out).2.1, (C8.out _ BV.out).2.2⟩
              clear hK K
              (try simp only [Act.put])
              (try simp only [List.setIfInBounds_toArray])
              (try simp only [List.set_cons_succ])
              (try simp only [List.set_cons_zero])
              refine wpAnyH_ready (rs := [23]) (by kernel_rfl) (by simp) ?_
              refine AllReadyH.cons (o := { dst := some 15, op := Op.assign (Operand.tmp 85), type := 4, pos := "law.go:278", after := #[{ on := 17, ground := Ground.data }, { on := 22, ground := Ground.chain }, { on := 0, ground := Ground.phase }, { on := 1, ground := Ground.phase }, { on := 2, ground := Ground.phase }, { on := 3, ground := Ground.phase }, { on := 4, ground := Ground.phase }, { on := 5, ground := Ground.phase }, { on := 6, ground := Ground.phase }, { on := 7, ground := Ground.phase }, { on := 8, ground := Ground.phase }, { on := 9, ground := Ground.phase }, { on := 10, ground := Ground.phase }, { on := 11, ground := Ground.phase }, { on := 12, ground := Ground.phase }, { on := 13, ground := Ground.phase }, { on := 14, ground := Ground.phase }, { on := 15, ground := Ground.phase }, { on := 16, ground := Ground.phase }, { on := 17, ground := Ground.phase }, { on := 18, ground := Ground.textOnly Departure.lateStores }, { on := 19, ground := Ground.phase }, { on := 20, ground := Ground.phase }, { on := 21, ground := Ground.phase }, { on := 22, ground := Ground.phase }], guard := none }) rfl (fun K hK => ?_) AllReadyH.nil
              go_simp
              refine hK.out _ _ ?_ (fun hHeld => ?_)
              · exact ⟨(C5.out _ BV.out).1, (C5.out _ BV.out).2, (C8.out _ BV.out).1, (C8.out _ BV.out).2.1, (C8.out _ BV.out).2.2⟩
              clear hK K
              (try simp only [Act.put])
              (try simp only [List.setIfInBounds_toArray])
              (try simp only [List.set_cons_succ])
              (try simp only [List.set_cons_zero])
              refine wpAnyH_ready (rs := [24]) (by kernel_rfl) (by simp) ?_
              refine AllReadyH.cons (o := { dst := some 16, op := Op.assign (Operand.tmp 86), type := 32, pos := "law.go:278", after := #[{ on := 18, ground := Ground.data }, { on := 23, ground := Ground.chain }, { on := 0, ground := Ground.phase }, { on := 1, ground := Ground.phase }, { on := 2, ground := Ground.phase }, { on := 3, ground := Ground.phase }, { on := 4, ground := Ground.phase }, { on := 5, ground := Ground.phase }, { on := 6, ground := Ground.phase }, { on := 7, ground := Ground.phase }, { on := 8, ground := Ground.phase }, { on := 9, ground := Ground.phase }, { on := 10, ground := Ground.phase }, { on := 11, ground := Ground.phase }, { on := 12, ground := Ground.phase }, { on := 13, ground := Ground.phase }, { on := 14, ground := Ground.phase }, { on := 15, ground := Ground.phase }, { on := 16, ground := Ground.phase }, { on := 17, ground := Ground.phase }, { on := 18, ground := Ground.phase }, { on := 19, ground := Ground.phase }, { on := 20, ground := Ground.phase }, { on := 21, ground := Ground.phase }, { on := 22, ground := Ground.phase }, { on := 23, ground := Ground.phase }], guard := none }) rfl (fun K hK => ?_) AllReadyH.nil
              go_simp
              refine hK.out _ _ ?_ (fun hHeld => ?_)
              · exact ⟨(C5.out _ BV.out).1, (C5.out _ BV.out).2, (C8.out _ BV.out).1, (C8.out _ BV.out).2.1, (C8.out _ BV.out).2.2⟩
              clear hK K
              (try simp only [Act.put])
              (try simp only [List.setIfInBounds_toArray])
              (try simp only [List.set_cons_succ])
              (try simp only [List.set_cons_zero])
              refine wpAnyH_done (by kernel_rfl) ?_ _
              clear hHeld
              replace MM := Lib.hid (MM.out.imp (D' := (fun b => b ≠ b5 ∧ b ≠ b8 ∧ b ≠ b9)) (fun b hb => by (try simp only [ne_eq] at hb ⊢); omega))
              go_wp2_with fail
              go_meet
              case rel => exact ⟨_, _, _, rfl, rfl, rfl, X13.out, MM.out, BV.out⟩
            refine AllReadyH.cons (o := { dst := some 14, op := Op.alloc 45, type := 0, pos := "law.go:278", after := #[], guard := none }) rfl (fun K hK => ?_) AllReadyH.nil
            go_simp
            have hlt_p14 := BV.out.size
            have MM' := Lib.hid MM.out.addne
            clear MM
            have MM := MM'
            clear MM'
            replace MM := Lib.hid (MM.out.below (below_new v101 (.cells #[.int .i64 0, .int .u32 0, .int .u32 0] 45)))
            replace BV := Lib.hid (BV.out.trans ((below_new v101 (.cells #[.int .i64 0, .int .u32 0, .int .u32 0] 45)).mono BV.out.size))
            have X14 := Lib.hid (Box.new v101 #[.int .i64 0, .int .u32 0, .int .u32 0] 45 rfl)
            generalize World.alloc v101 (.cells #[.int .i64 0, .int .u32 0, .int .u32 0] 45) = v120 at *
            generalize World.heap v101 = hp_p14 at *
            generalize hp_p14.size = p14 at *
            refine hK.out _ _ ?_ (fun hHeld => ?_)
            · exact ⟨(C5.out _ BV.out).1, (C5.out _ BV.out).2, (C8.out _ BV.out).1, (C8.out _ BV.out).2.1, (C8.out _ BV.out).2.2⟩
            clear hK K
            (try simp only [Act.put])
            (try simp only [List.setIfInBounds_toArray])
            (try simp only [List.set_cons_succ])
            (try simp only [List.set_cons_zero])
            refine wpAnyH_ready (rs := [13, 19]) (by kernel_rfl) (by simp) ?_
            refine AllReadyH.cons (o := { dst := some 82, op := Op.call { callee := Callee.value (Operand.func 28), args := #[Operand.tmp 69, Operand.tmp 71, Operand.tmp 72, Operand.tmp 75, Operand.tmp 81], argTypes := #[31, 3, 42, 45, 45] }, type := 50, pos := "law.go:278", after := #[{ on := 0, ground := Ground.data }, { on := 2, ground := Ground.data }, { on := 3, ground := Ground.data }, { on := 6, ground := Ground.data }, { on := 12, ground := Ground.data }, { on := 12, ground := Ground.chain }], guard := none }) rfl (fun K hK => ?_) ?_
            · skip
              go_simp
              go_at_call 28
              have hl_b := BV.out.size
              have hl_X14 := X14.out.lt
              refine (SW.out _ _ MM.out).mono ?_
              rintro e v121 ⟨z1, z2, rfl, hmx, hb⟩
              replace MM := Lib.hid (hmx.imp (D' := (fun b => b ≠ b5 ∧ b ≠ b8 ∧ b ≠ b9 ∧ b ≠ p14)) (fun b hb => by rcases hb with hb | hb <;> (try simp only [ne_eq] at hb ⊢) <;> omega))
              clear hmx hl_b hl_X14
              replace X14 := Lib.hid (X14.out.below (hb))
              replace BV := Lib.hid (BV.out.trans ((hb).mono BV.out.size))
              clear hb
              go_simp
              refine hK.out _ _ ?_ (fun hHeld => ?_)
              · exact ⟨(C5.out _ BV.out).1, (C5.out _ BV.out).2, (C8.out _ BV.out).1, (C8.out _ BV.out).2.1, (C8.out _ BV.out).2.2⟩
              clear hK K
              (try simp only [Act.put])
              (try simp only [List.setIfInBounds_toArray])
              (try simp only [List.set_cons_succ])
              (try simp only [List.set_cons_zero])
              refine wpAnyH_take (i := 14) (oi := { dst := some 68, op := Op.move (Operand.tmp 82), type := 50, pos := "law.go:278", after := #[{ on := 13, ground := Ground.data }], guard := none }) (v := ?d122_28xv14) rfl (by kernel_rfl) (by kernel_rfl) (by kernel_rfl) (fun _ _ _ h => h) (Or.inl ⟨by rfl, ?d122_28xy14⟩) (by assumption) ?d122_28xr14
              case d122_28xy14 => (intro w hSw; (try dsimp only at hSw); go_simp; try with_reducible rfl)
              (try simp only [Act.put])
              (try simp only [List.setIfInBounds_toArray])
              (try simp only [List.set_cons_succ])
              (try simp only [List.set_cons_zero])
              refine wpAnyH_take (i := 15) (oi := { dst := some 83, op := Op.extract (Operand.tmp 68) 0, type := 31, pos := "law.go:278", after := #[{ on := 14, ground := Ground.data }], guard := none }) (v := ?d122_29xv15) rfl (by kernel_rfl) (by kernel_rfl) (by kernel_rfl) (fun _ _ _ h => h) (Or.inl ⟨by rfl, ?d122_29xy15⟩) (by assumption) ?d122_29xr15
              case d122_29xy15 => (intro w hSw; (try dsimp only at hSw); go_simp; try with_reducible rfl)
              (try simp only [Act.put])
              (try simp only [List.setIfInBounds_toArray])
              (try simp only [List.set_cons_succ])
              (try simp only [List.set_cons_zero])
              refine wpAnyH_take (i := 16) (oi := { dst := some 84, op := Op.extract (Operand.tmp 68) 1, type := 45, pos := "law.go:278", after := #[{ on := 14, ground := Ground.data }, { on := 21, ground := Ground.gcOnly Departure.lateStores }], guard := none }) (v := ?d122_30xv16) rfl (by kernel_rfl) (by kernel_rfl) (by kernel_rfl) (fun _ _ _ h => h) (Or.inl ⟨by rfl, ?d122_30xy16⟩) (by assumption) ?d122_30xr16
              case d122_30xy16 => (intro w hSw; (try dsimp only at hSw); go_simp; try with_reducible rfl)
              (try simp only [Act.put])
              (try simp only [List.setIfInBounds_toArray])
              (try simp only [List.set_cons_succ])
              (try simp only [List.set_cons_zero])
              refine wpAnyH_take (i := 17) (oi := { dst := some 85, op := Op.extract (Operand.tmp 68) 2, type := 4, pos := "law.go:278", after := #[{ on := 14, ground := Ground.data }, { on := 22, ground := Ground.gcOnly Departure.lateStores }], guard := none }) (v := ?d122_31xv17) rfl (by kernel_rfl) (by kernel_rfl) (by kernel_rfl) (fun _ _ _ h => h) (Or.inl ⟨by rfl, ?d122_31xy17⟩) (by assumption) ?d122_31xr17
              case d122_31xy17 => (intro w hSw; (try dsimp only at hSw); go_simp; try with_reducible rfl)
              (try simp only [Act.put])
              (try simp only [List.setIfInBounds_toArray])
              (try simp only [List.set_cons_succ])
              (try simp only [List.set_cons_zero])
              refine wpAnyH_take (i := 18) (oi := { dst := some 86, op := Op.extract (Operand.tmp 68) 3, type := 32, pos := "law.go:278", after := #[{ on := 14, ground := Ground.data }, { on := 23, ground := Ground.gcOnly Departure.lateStores }], guard := none }) (v := ?d122_32xv18) rfl (by kernel_rfl) (by kernel_rfl) (by kernel_rfl) (fun _ _ _ h => h) (Or.inl ⟨by rfl, ?d122_32xy18⟩) (by assumption) ?d122_32xr18
              case d122_32xy18 => (intro w hSw; (try dsimp only at hSw); go_simp; try with_reducible rfl)
              (try simp only [Act.put])
              (try simp only [List.setIfInBounds_toArray])
              (try simp only [List.set_cons_succ])
              (try simp only [List.set_cons_zero])
              refine wpAnyH_ready (rs := [19]) (by kernel_rfl) (by simp) ?_
              refine AllReadyH.cons (o := { dst := some 13, op := Op.alloc 31, type := 0, pos := "law.go:278", after := #[], guard := none }) rfl (fun K hK => ?_) AllReadyH.nil
              go_simp
              have hlt_p13 := BV.out.size
              have hlt_p13_X14 := X14.out.lt
              have MM' := Lib.hid MM.out.addne
              clear MM
              have MM := MM'
              clear MM'
              replace X14 := Lib.hid (X14.out.below (below_new v121 (.cells #[.slice none 0 0, .slice none 0 0] 31)))
              replace MM := Lib.hid (MM.out.below (below_new v121 (.cells #[.slice none 0 0, .slice none 0 0] 31)))
              replace BV := Lib.hid (BV.out.trans ((below_new v121 (.cells #[.slice none 0 0, .slice none 0 0] 31)).mono BV.out.size))
              have X13 := Lib.hid (Box.new v121 #[.slice none 0 0, .slice none 0 0] 31 rfl)
              generalize World.alloc v121 (.cells #[.slice none 0 0, .slice none 0 0] 31) = v122 at *
              generalize World.heap v121 = hp_p13 at *
              generalize hp_p13.size = p13 at *
              refine hK.out _ _ ?_ (fun hHeld => ?_)
              · exact ⟨(C5.out _ BV.out).1, (C5.out _ BV.out).2, (C8.out _ BV.out).1, (C8.out _ BV.out).2.1, (C8.out _ BV.out).2.2⟩
              clear hK K
              (try simp only [Act.put])
              (try simp only [List.setIfInBounds_toArray])
              (try simp only [List.set_cons_succ])
              (try simp only [List.set_cons_zero])
              refine wpAnyH_ready (rs := [21]) (by kernel_rfl) (by simp) ?_
              refine AllReadyH.cons (o := { dst := none, op := Op.store 31 (Operand.tmp 13) (Operand.tmp 83), type := 0, pos := "law.go:278", after := #[{ on := 19, ground := Ground.data }, { on := 15, ground := Ground.data }, { on := 13, ground := Ground.chain }, { on := 0, ground := Ground.phase }, { on := 1, ground := Ground.phase }, { on := 2, ground := Ground.phase }, { on := 3, ground := Ground.phase }, { on := 4, ground := Ground.phase }, { on := 5, ground := Ground.phase }, { on := 6, ground := Ground.phase }, { on := 7, ground := Ground.phase }, { on := 8, ground := Ground.phase }, { on := 9, ground := Ground.phase }, { on := 10, ground := Ground.phase }, { on := 11, ground := Ground.phase }, { on := 12, ground := Ground.phase }, { on := 13, ground := Ground.phase }, { on := 14, ground := Ground.phase }, { on := 15, ground := Ground.phase }, { on := 16, ground := Ground.textOnly Departure.lateStores }, { on := 17, ground := Ground.textOnly Departure.lateStores }, { on := 18, ground := Ground.textOnly Departure.lateStores }, { on := 19, ground := Ground.phase }, { on := 20, ground := Ground.phase }], guard := none }) rfl (fun K hK => ?_) AllReadyH.nil
              obtain ⟨⟨m0, m1⟩, g0, g1⟩ := X13.out.cells2
              go_simp
              clear m0 g0 m1 g1
              replace X14 := Lib.hid (X14.out.only (by omega) (((Only.refl p13 v122).set 0 (.slice z1 3 3)).set 1 (.slice z2 3 3)))
              replace MM := Lib.hid (MM.out.only X13.out (by simp) (((Only.refl p13 v122).set 0 (.slice z1 3 3)).set 1 (.slice z2 3 3)))
              replace BV := Lib.hid (((BV.out).put p13 (by omega) 0 (.slice z1 3 3)).put p13 (by omega) 1 (.slice z2 3 3))
              replace X13 := Lib.hid (((X13.out).set 0 (.slice z1 3 3)).set 1 (.slice z2 3 3))
              generalize (World.setCell (World.setCell v122 ⟨p13, 0, none⟩ (.slice z1 3 3)) ⟨p13, 1, none⟩ (.slice z2 3 3)) = v123 at *
              refine hK.out _ _ ?_ (fun hHeld => ?_)
              · exact ⟨(C5.out _ BV.out).1, (C5.out _ BV.out).2, (C8.out _ BV.out).1, (C8.out _ BV.out).2.1, (C8.out _ BV.out).2.2⟩
              clear hK K
              (try simp only [Act.put])
              (try simp only [List.setIfInBounds_toArray])
              (try simp only [List.set_cons_succ])
              (try simp only [List.set_cons_zero])
              refine wpAnyH_ready (rs := [22]) (by kernel_rfl) (by simp) ?_
              refine AllReadyH.cons (o := { dst := none, op := Op.store 45 (Operand.tmp 14) (Operand.tmp 84), type := 0, pos := "law.go:278", after := #[{ on := 20, ground := Ground.data }, { on := 16, ground := Ground.data }, { on := 21, ground := Ground.chain }, { on := 0, ground := Ground.phase }, { on := 1, ground := Ground.phase }, { on := 2, ground := Ground.phase }, { on := 3, ground := Ground.phase }, { on := 4, ground := Ground.phase }, { on := 5, ground := Ground.phase }, { on := 6, ground := Ground.phase }, { on := 7, ground := Ground.phase }, { on := 8, ground := Ground.phase }, { on := 9, ground := Ground.phase }, { on := 10, ground := Ground.phase }, { on := 11, ground := Ground.phase }, { on := 12, ground := Ground.phase }, { on := 13, ground := Ground.phase }, { on := 14, ground := Ground.phase }, { on := 15, ground := Ground.phase }, { on := 16, ground := Ground.phase }, { on := 17, ground := Ground.textOnly Departure.lateStores }, { on := 18, ground := Ground.textOnly Departure.lateStores }, { on := 19, ground := Ground.phase }, { on := 20, ground := Ground.phase }, { on := 21, ground := Ground.phase }], guard := none }) rfl (fun K hK => ?_) AllReadyH.nil
              obtain ⟨⟨m0, m1, m2⟩, g0, g1, g2⟩ := X14.out.cells3
              go_simp
              clear m0 g0 m1 g1 m2 g2
              replace MM := Lib.hid (MM.out.only X14.out (by simp) ((((Only.refl p14 v123).set 0 (.int .i64 n)).set 1 (.int .u32 0)).set 2 (.int .u32 0)))
              replace X13 := Lib.hid (X13.out.only (by omega) ((((Only.refl p14 v123).set 0 (.int .i64 n)).set 1 (.int .u32 0)).set 2 (.int .u32 0)))
              replace BV := Lib.hid ((((BV.out).put p14 (by omega) 0 (.int .i64 n)).put p14 (by omega) 1 (.int .u32 0)).put p14 (by omega) 2 (.int .u32 0))
              replace X14 := Lib.hid ((((X14.out).set 0 (.int .i64 n)).set 1 (.int .u32 0)).set 2 (.int .u32 0))
              generalize (World.setCell (World.setCell (World.setCell v123 ⟨p14, 0, none⟩ (.int .i64 n)) ⟨p14, 1, none⟩ (.int .u32 0)) ⟨p14, 2, none⟩ (.int .u32 0)) = v124 at *
              refine hK.out _ _ ?_ (fun hHeld => ?_)
              · exact ⟨(C5.out _ BV.out).1, (C5.out _ BV.out).2, (C8.out _ BV.out).1, (C8.out _ BV.out).2.1, (C8.out _ BV.out).2.2⟩
              clear hK K
              (try simp only [Act.put])
              (try simp only [List.setIfInBounds_toArray])
              (try simp only [List.set_cons_succ])
              (try simp only [List.set_cons_zero])
              refine wpAnyH_ready (rs := [23]) (by kernel_rfl) (by simp) ?_
              refine AllReadyH.cons (o := { dst := some 15, op := Op.assign (Operand.tmp 85), type := 4, pos := "law.go:278", after := #[{ on := 17, ground := Ground.data }, { on := 22, ground := Ground.chain }, { on := 0, ground := Ground.phase }, { on := 1, ground := Ground.phase }, { on := 2, ground := Ground.phase }, { on := 3, ground := Ground.phase }, { on := 4, ground := Ground.phase }, { on := 5, ground := Ground.phase }, { on := 6, ground := Ground.phase }, { on := 7, ground := Ground.phase }, { on := 8, ground := Ground.phase }, { on := 9, ground := Ground.phase }, { on := 10, ground := Ground.phase }, { on := 11, ground := Ground.phase }, { on := 12, ground := Ground.phase }, { on := 13, ground := Ground.phase }, { on := 14, ground := Ground.phase }, { on := 15, ground := Ground.phase }, { on := 16, ground := Ground.phase }, { on := 17, ground := Ground.phase }, { on := 18, ground := Ground.textOnly Departure.lateStores }, { on := 19, ground := Ground.phase }, { on := 20, ground := Ground.phase }, { on := 21, ground := Ground.phase }, { on := 22, ground := Ground.phase }], guard := none }) rfl (fun K hK => ?_) AllReadyH.nil
              go_simp
              refine hK.out _ _ ?_ (fun hHeld => ?_)
              · exact ⟨(C5.out _ BV.out).1, (C5.out _ BV.out).2, (C8.out _ BV.out).1, (C8.out _ BV.out).2.1, (C8.out _ BV.out).2.2⟩
              clear hK K
              (try simp only [Act.put])
              (try simp only [List.setIfInBounds_toArray])
              (try simp only [List.set_cons_succ])
              (try simp only [List.set_cons_zero])
              refine wpAnyH_ready (rs := [24]) (by kernel_rfl) (by simp) ?_
              refine AllReadyH.cons (o := { dst := some 16, op := Op.assign (Operand.tmp 86), type := 32, pos := "law.go:278", after := #[{ on := 18, ground := Ground.data }, { on := 23, ground := Ground.chain }, { on := 0, ground := Ground.phase }, { on := 1, ground := Ground.phase }, { on := 2, ground := Ground.phase }, { on := 3, ground := Ground.phase }, { on := 4, ground := Ground.phase }, { on := 5, ground := Ground.phase }, { on := 6, ground := Ground.phase }, { on := 7, ground := Ground.phase }, { on := 8, ground := Ground.phase }, { on := 9, ground := Ground.phase }, { on := 10, ground := Ground.phase }, { on := 11, ground := Ground.phase }, { on := 12, ground := Ground.phase }, { on := 13, ground := Ground.phase }, { on := 14, ground := Ground.phase }, { on := 15, ground := Ground.phase }, { on := 16, ground := Ground.phase }, { on := 17, ground := Ground.phase }, { on := 18, ground := Ground.phase }, { on := 19, ground := Ground.phase }, { on := 20, ground := Ground.phase }, { on := 21, ground := Ground.phase }, { on := 22, ground := Ground.phase }, { on := 23, ground := Ground.phase }], guard := none }) rfl (fun K hK => ?_) AllReadyH.nil
              go_simp
              refine hK.out _ _ ?_ (fun hHeld => ?_)
              · exact ⟨(C5.out _ BV.out).1, (C5.out _ BV.out).2, (C8.out _ BV.out).1, (C8.out _ BV.out).2.1, (C8.out _ BV.out).2.2⟩
              clear hK K
              (try simp only [Act.put])
              (try simp only [List.setIfInBounds_toArray])
              (try simp only [List.set_cons_succ])
              (try simp only [List.set_cons_zero])
              refine wpAnyH_done (by kernel_rfl) ?_ _
              clear hHeld
              replace MM := Lib.hid (MM.out.imp (D' := (fun b => b ≠ b5 ∧ b ≠ b8 ∧ b ≠ b9)) (fun b hb => by (try simp only [ne_eq] at hb ⊢); omega))
              go_wp2_with fail
              go_meet
              case rel => exact ⟨_, _, _, rfl, rfl, rfl, X13.out, MM.out, BV.out⟩
            refine AllReadyH.cons (o := { dst := some 13, op := Op.alloc 31, type := 0, pos := "law.go:278", after := #[], guard := none }) rfl (fun K hK => ?_) AllReadyH.nil
            go_simp
            have hlt_p13 := BV.out.size
            have hlt_p13_X14 := X14.out.lt
            have MM' := Lib.hid MM.out.addne
            clear MM
            have MM := MM'
            clear MM'
            replace MM := Lib.hid (MM.out.below (below_new v120 (.cells #[.slice none 0 0, .slice none 0 0] 31)))
            replace X14 := Lib.hid (X14.out.below (below_new v120 (.cells #[.slice none 0 0, .slice none 0 0] 31)))
            replace BV := Lib.hid (BV.out.trans ((below_new v120 (.cells #[.slice none 0 0, .slice none 0 0] 31)).mono BV.out.size))
            have X13 := Lib.hid (Box.new v120 #[.slice none 0 0, .slice none 0 0] 31 rfl)
            generalize World.alloc v120 (.cells #[.slice none 0 0, .slice none 0 0] 31) = v125 at *
            generalize World.heap v120 = hp_p13 at *
            generalize hp_p13.size = p13 at *
            refine hK.out _ _ ?_ (fun hHeld => ?_)
            · exact ⟨(C5.out _ BV.out).1, (C5.out _ BV.out).2, (C8.out _ BV.out).1, (C8.out _ BV.out).2.1, (C8.out _ BV.out).2.2⟩
            clear hK K
            (try simp only [Act.put])
            (try simp only [List.setIfInBounds_toArray])
            (try simp only [List.set_cons_succ])
            (try simp only [List.set_cons_zero])
            refine wpAnyH_ready (rs := [13]) (by kernel_rfl) (by simp) ?_
            refine AllReadyH.cons (o := { dst := some 82, op := Op.call { callee := Callee.value (Operand.func 28), args := #[Operand.tmp 69, Operand.tmp 71, Operand.tmp 72, Operand.tmp 75, Operand.tmp 81], argTypes := #[31, 3, 42, 45, 45] }, type := 50, pos := "law.go:278", after := #[{ on := 0, ground := Ground.data }, { on := 2, ground := Ground.data }, { on := 3, ground := Ground.data }, { on := 6, ground := Ground.data }, { on := 12, ground := Ground.data }, { on := 12, ground := Ground.chain }], guard := none }) rfl (fun K hK => ?_) AllReadyH.nil
            go_simp
            go_at_call 28
            have hl_b := BV.out.size
            have hl_X14 := X14.out.lt
            have hl_X13 := X13.out.lt
            refine (SW.out _ _ MM.out).mono ?_
            rintro e v126 ⟨z1, z2, rfl, hmx, hb⟩
            replace MM := Lib.hid (hmx.imp (D' := (fun b => b ≠ b5 ∧ b ≠ b8 ∧ b ≠ b9 ∧ b ≠ p13 ∧ b ≠ p14)) (fun b hb => by rcases hb with hb | hb <;> (try simp only [ne_eq] at hb ⊢) <;> omega))
            clear hmx hl_b hl_X14 hl_X13
            replace X14 := Lib.hid (X14.out.below (hb))
            replace X13 := Lib.hid (X13.out.below (hb))
            replace BV := Lib.hid (BV.out.trans ((hb).mono BV.out.size))
            clear hb
            go_simp
            refine hK.out _ _ ?_ (fun hHeld => ?_)
            · exact ⟨(C5.out _ BV.out).1, (C5.out _ BV.out).2, (C8.out _ BV.out).1, (C8.out _ BV.out).2.1, (C8.out _ BV.out).2.2⟩
            clear hK K
            (try simp only [Act.put])
            (try simp only [List.setIfInBounds_toArray])
            (try simp only [List.set_cons_succ])
            (try simp only [List.set_cons_zero])
            refine wpAnyH_take (i := 14) (oi := { dst := some 68, op := Op.move (Operand.tmp 82), type := 50, pos := "law.go:278", after := #[{ on := 13, ground := Ground.data }], guard := none }) (v := ?d127_33xv14) rfl (by kernel_rfl) (by kernel_rfl) (by kernel_rfl) (fun _ _ _ h => h) (Or.inl ⟨by rfl, ?d127_33xy14⟩) (by assumption) ?d127_33xr14
            case d127_33xy14 => (intro w hSw; (try dsimp only at hSw); go_simp; try with_reducible rfl)
            (try simp only [Act.put])
            (try simp only [List.setIfInBounds_toArray])
            (try simp only [List.set_cons_succ])
            (try simp only [List.set_cons_zero])
            refine wpAnyH_take (i := 15) (oi := { dst := some 83, op := Op.extract (Operand.tmp 68) 0, type := 31, pos := "law.go:278", after := #[{ on := 14, ground := Ground.data }], guard := none }) (v := ?d127_34xv15) rfl (by kernel_rfl) (by kernel_rfl) (by kernel_rfl) (fun _ _ _ h => h) (Or.inl ⟨by rfl, ?d127_34xy15⟩) (by assumption) ?d127_34xr15
            case d127_34xy15 => (intro w hSw; (try dsimp only at hSw); go_simp; try with_reducible rfl)
            (try simp only [Act.put])
            (try simp only [List.setIfInBounds_toArray])
            (try simp only [List.set_cons_succ])
            (try simp only [List.set_cons_zero])
            refine wpAnyH_take (i := 16) (oi := { dst := some 84, op := Op.extract (Operand.tmp 68) 1, type := 45, pos := "law.go:278", after := #[{ on := 14, ground := Ground.data }, { on := 21, ground := Ground.gcOnly Departure.lateStores }], guard := none }) (v := ?d127_35xv16) rfl (by kernel_rfl) (by kernel_rfl) (by kernel_rfl) (fun _ _ _ h => h) (Or.inl ⟨by rfl, ?d127_35xy16⟩) (by assumption) ?d127_35xr16
            case d127_35xy16 => (intro w hSw; (try dsimp only at hSw); go_simp; try with_reducible rfl)
            (try simp only [Act.put])
            (try simp only [List.setIfInBounds_toArray])
            (try simp only [List.set_cons_succ])
            (try simp only [List.set_cons_zero])
            refine wpAnyH_take (i := 17) (oi := { dst := some 85, op := Op.extract (Operand.tmp 68) 2, type := 4, pos := "law.go:278", after := #[{ on := 14, ground := Ground.data }, { on := 22, ground := Ground.gcOnly Departure.lateStores }], guard := none }) (v := ?d127_36xv17) rfl (by kernel_rfl) (by kernel_rfl) (by kernel_rfl) (fun _ _ _ h => h) (Or.inl ⟨by rfl, ?d127_36xy17⟩) (by assumption) ?d127_36xr17
            case d127_36xy17 => (intro w hSw; (try dsimp only at hSw); go_simp; try with_reducible rfl)
            (try simp only [Act.put])
            (try simp only [List.setIfInBounds_toArray])
            (try simp only [List.set_cons_succ])
            (try simp only [List.set_cons_zero])
            refine wpAnyH_take (i := 18) (oi := { dst := some 86, op := Op.extract (Operand.tmp 68) 3, type := 32, pos := "law.go:278", after := #[{ on := 14, ground := Ground.data }, { on := 23, ground := Ground.gcOnly Departure.lateStores }], guard := none }) (v := ?d127_37xv18) rfl (by kernel_rfl) (by kernel_rfl) (by kernel_rfl) (fun _ _ _ h => h) (Or.inl ⟨by rfl, ?d127_37xy18⟩) (by assumption) ?d127_37xr18
            case d127_37xy18 => (intro w hSw; (try dsimp only at hSw); go_simp; try with_reducible rfl)
            (try simp only [Act.put])
            (try simp only [List.setIfInBounds_toArray])
            (try simp only [List.set_cons_succ])
            (try simp only [List.set_cons_zero])
            refine wpAnyH_ready (rs := [21]) (by kernel_rfl) (by simp) ?_
            refine AllReadyH.cons (o := { dst := none, op := Op.store 31 (Operand.tmp 13) (Operand.tmp 83), type := 0, pos := "law.go:278", after := #[{ on := 19, ground := Ground.data }, { on := 15, ground := Ground.data }, { on := 13, ground := Ground.chain }, { on := 0, ground := Ground.phase }, { on := 1, ground := Ground.phase }, { on := 2, ground := Ground.phase }, { on := 3, ground := Ground.phase }, { on := 4, ground := Ground.phase }, { on := 5, ground := Ground.phase }, { on := 6, ground := Ground.phase }, { on := 7, ground := Ground.phase }, { on := 8, ground := Ground.phase }, { on := 9, ground := Ground.phase }, { on := 10, ground := Ground.phase }, { on := 11, ground := Ground.phase }, { on := 12, ground := Ground.phase }, { on := 13, ground := Ground.phase }, { on := 14, ground := Ground.phase }, { on := 15, ground := Ground.phase }, { on := 16, ground := Ground.textOnly Departure.lateStores }, { on := 17, ground := Ground.textOnly Departure.lateStores }, { on := 18, ground := Ground.textOnly Departure.lateStores }, { on := 19, ground := Ground.phase }, { on := 20, ground := Ground.phase }], guard := none }) rfl (fun K hK => ?_) AllReadyH.nil
            obtain ⟨⟨m0, m1⟩, g0, g1⟩ := X13.out.cells2
            go_simp
            clear m0 g0 m1 g1
            replace X14 := Lib.hid (X14.out.only (by omega) (((Only.refl p13 v126).set 0 (.slice z1 3 3)).set 1 (.slice z2 3 3)))
            replace MM := Lib.hid (MM.out.only X13.out (by simp) (((Only.refl p13 v126).set 0 (.slice z1 3 3)).set 1 (.slice z2 3 3)))
            replace BV := Lib.hid (((BV.out).put p13 (by omega) 0 (.slice z1 3 3)).put p13 (by omega) 1 (.slice z2 3 3))
            replace X13 := Lib.hid (((X13.out).set 0 (.slice z1 3 3)).set 1 (.slice z2 3 3))
            generalize (World.setCell (World.setCell v126 ⟨p13, 0, none⟩ (.slice z1 3 3)) ⟨p13, 1, none⟩ (.slice z2 3 3)) = v127 at *
            refine hK.out _ _ ?_ (fun hHeld => ?_)
            · exact ⟨(C5.out _ BV.out).1, (C5.out _ BV.out).2, (C8.out _ BV.out).1, (C8.out _ BV.out).2.1, (C8.out _ BV.out).2.2⟩
            clear hK K
            (try simp only [Act.put])
            (try simp only [List.setIfInBounds_toArray])
            (try simp only [List.set_cons_succ])
            (try simp only [List.set_cons_zero])
            refine wpAnyH_ready (rs := [22]) (by kernel_rfl) (by simp) ?_
            refine AllReadyH.cons (o := { dst := none, op := Op.store 45 (Operand.tmp 14) (Operand.tmp 84), type := 0, pos := "law.go:278", after := #[{ on := 20, ground := Ground.data }, { on := 16, ground := Ground.data }, { on := 21, ground := Ground.chain }, { on := 0, ground := Ground.phase }, { on := 1, ground := Ground.phase }, { on := 2, ground := Ground.phase }, { on := 3, ground := Ground.phase }, { on := 4, ground := Ground.phase }, { on := 5, ground := Ground.phase }, { on := 6, ground := Ground.phase }, { on := 7, ground := Ground.phase }, { on := 8, ground := Ground.phase }, { on := 9, ground := Ground.phase }, { on := 10, ground := Ground.phase }, { on := 11, ground := Ground.phase }, { on := 12, ground := Ground.phase }, { on := 13, ground := Ground.phase }, { on := 14, ground := Ground.phase }, { on := 15, ground := Ground.phase }, { on := 16, ground := Ground.phase }, { on := 17, ground := Ground.textOnly Departure.lateStores }, { on := 18, ground := Ground.textOnly Departure.lateStores }, { on := 19, ground := Ground.phase }, { on := 20, ground := Ground.phase }, { on := 21, ground := Ground.phase }], guard := none }) rfl (fun K hK => ?_) AllReadyH.nil
            obtain ⟨⟨m0, m1, m2⟩, g0, g1, g2⟩ := X14.out.cells3
            go_simp
            clear m0 g0 m1 g1 m2 g2
            replace X13 := Lib.hid (X13.out.only (by omega) ((((Only.refl p14 v127).set 0 (.int .i64 n)).set 1 (.int .u32 0)).set 2 (.int .u32 0)))
            replace MM := Lib.hid (MM.out.only X14.out (by simp) ((((Only.refl p14 v127).set 0 (.int .i64 n)).set 1 (.int .u32 0)).set 2 (.int .u32 0)))
            replace BV := Lib.hid ((((BV.out).put p14 (by omega) 0 (.int .i64 n)).put p14 (by omega) 1 (.int .u32 0)).put p14 (by omega) 2 (.int .u32 0))
            replace X14 := Lib.hid ((((X14.out).set 0 (.int .i64 n)).set 1 (.int .u32 0)).set 2 (.int .u32 0))
            generalize (World.setCell (World.setCell (World.setCell v127 ⟨p14, 0, none⟩ (.int .i64 n)) ⟨p14, 1, none⟩ (.int .u32 0)) ⟨p14, 2, none⟩ (.int .u32 0)) = v128 at *
            refine hK.out _ _ ?_ (fun hHeld => ?_)
            · exact ⟨(C5.out _ BV.out).1, (C5.out _ BV.out).2, (C8.out _ BV.out).1, (C8.out _ BV.out).2.1, (C8.out _ BV.out).2.2⟩
            clear hK K
            (try simp only [Act.put])
            (try simp only [List.setIfInBounds_toArray])
            (try simp only [List.set_cons_succ])
            (try simp only [List.set_cons_zero])
            refine wpAnyH_ready (rs := [23]) (by kernel_rfl) (by simp) ?_
            refine AllReadyH.cons (o := { dst := some 15, op := Op.assign (Operand.tmp 85), type := 4, pos := "law.go:278", after := #[{ on := 17, ground := Ground.data }, { on := 22, ground := Ground.chain }, { on := 0, ground := Ground.phase }, { on := 1, ground := Ground.phase }, { on := 2, ground := Ground.phase }, { on := 3, ground := Ground.phase }, { on := 4, ground := Ground.phase }, { on := 5, ground := Ground.phase }, { on := 6, ground := Ground.phase }, { on := 7, ground := Ground.phase }, { on := 8, ground := Ground.phase }, { on := 9, ground := Ground.phase }, { on := 10, ground := Ground.phase }, { on := 11, ground := Ground.phase }, { on := 12, ground := Ground.phase }, { on := 13, ground := Ground.phase }, { on := 14, ground := Ground.phase }, { on := 15, ground := Ground.phase }, { on := 16, ground := Ground.phase }, { on := 17, ground := Ground.phase }, { on := 18, ground := Ground.textOnly Departure.lateStores }, { on := 19, ground := Ground.phase }, { on := 20, ground := Ground.phase }, { on := 21, ground := Ground.phase }, { on := 22, ground := Ground.phase }], guard := none }) rfl (fun K hK => ?_) AllReadyH.nil
            go_simp
            refine hK.out _ _ ?_ (fun hHeld => ?_)
            · exact ⟨(C5.out _ BV.out).1, (C5.out _ BV.out).2, (C8.out _ BV.out).1, (C8.out _ BV.out).2.1, (C8.out _ BV.out).2.2⟩
            clear hK K
            (try simp only [Act.put])
            (try simp only [List.setIfInBounds_toArray])
            (try simp only [List.set_cons_succ])
            (try simp only [List.set_cons_zero])
            refine wpAnyH_ready (rs := [24]) (by kernel_rfl) (by simp) ?_
            refine AllReadyH.cons (o := { dst := some 16, op := Op.assign (Operand.tmp 86), type := 32, pos := "law.go:278", after := #[{ on := 18, ground := Ground.data }, { on := 23, ground := Ground.chain }, { on := 0, ground := Ground.phase }, { on := 1, ground := Ground.phase }, { on := 2, ground := Ground.phase }, { on := 3, ground := Ground.phase }, { on := 4, ground := Ground.phase }, { on := 5, ground := Ground.phase }, { on := 6, ground := Ground.phase }, { on := 7, ground := Ground.phase }, { on := 8, ground := Ground.phase }, { on := 9, ground := Ground.phase }, { on := 10, ground := Ground.phase }, { on := 11, ground := Ground.phase }, { on := 12, ground := Ground.phase }, { on := 13, ground := Ground.phase }, { on := 14, ground := Ground.phase }, { on := 15, ground := Ground.phase }, { on := 16, ground := Ground.phase }, { on := 17, ground := Ground.phase }, { on := 18, ground := Ground.phase }, { on := 19, ground := Ground.phase }, { on := 20, ground := Ground.phase }, { on := 21, ground := Ground.phase }, { on := 22, ground := Ground.phase }, { on := 23, ground := Ground.phase }], guard := none }) rfl (fun K hK => ?_) AllReadyH.nil
            go_simp
            refine hK.out _ _ ?_ (fun hHeld => ?_)
            · exact ⟨(C5.out _ BV.out).1, (C5.out _ BV.out).2, (C8.out _ BV.out).1, (C8.out _ BV.out).2.1, (C8.out _ BV.out).2.2⟩
            clear hK K
            (try simp only [Act.put])
            (try simp only [List.setIfInBounds_toArray])
            (try simp only [List.set_cons_succ])
            (try simp only [List.set_cons_zero])
            refine wpAnyH_done (by kernel_rfl) ?_ _
            clear hHeld
            replace MM := Lib.hid (MM.out.imp (D' := (fun b => b ≠ b5 ∧ b ≠ b8 ∧ b ≠ b9)) (fun b hb => by (try simp only [ne_eq] at hb ⊢); omega))
            go_wp2_with fail
            go_meet
            case rel => exact ⟨_, _, _, rfl, rfl, rfl, X13.out, MM.out, BV.out⟩
          refine AllReadyH.cons (o := { dst := some 13, op := Op.alloc 31, type := 0, pos := "law.go:278", after := #[], guard := none }) rfl (fun K hK => ?_) ?_
          · skip
            go_simp
            have hlt_p13 := BV.out.size
            have MM' := Lib.hid MM.out.addne
            clear MM
            have MM := MM'
            clear MM'
            replace MM := Lib.hid (MM.out.below (below_new V100 (.cells #[.slice none 0 0, .slice none 0 0] 31)))
            replace BV := Lib.hid (BV.out.trans ((below_new V100 (.cells #[.slice none 0 0, .slice none 0 0] 31)).mono BV.out.size))
            have X13 := Lib.hid (Box.new V100 #[.slice none 0 0, .slice none 0 0] 31 rfl)
            generalize World.alloc V100 (.cells #[.slice none 0 0, .slice none 0 0] 31) = v129 at *
            generalize World.heap V100 = hp_p13 at *
            generalize hp_p13.size = p13 at *
            refine hK.out _ _ ?_ (fun hHeld => ?_)
            · exact ⟨(C5.out _ BV.out).1, (C5.out _ BV.out).2, (C8.out _ BV.out).1, (C8.out _ BV.out).2.1, (C8.out _ BV.out).2.2⟩
            clear hK K
            (try simp only [Act.put])
            (try simp only [List.setIfInBounds_toArray])
            (try simp only [List.set_cons_succ])
            (try simp only [List.set_cons_zero])
            refine wpAnyH_ready (rs := [12, 20]) (by kernel_rfl) (by simp) ?_
            refine AllReadyH.cons (o := { dst := some 81, op := Op.call { callee := Callee.value (Operand.func 29), args := #[Operand.tmp 80], argTypes := #[2] }, type := 45, pos := "law.go:278", after := #[{ on := 11, ground := Ground.data }], guard := none }) rfl (fun K hK => ?_) ?_
            · skip
              go_simp
              go_at_call 29
              refine (word_any (s + 1) _).mono ?_
              rintro e v130 ⟨rfl, hb⟩
              replace MM := Lib.hid (MM.out.below (hb))
              replace X13 := Lib.hid (X13.out.below (hb))
              replace BV := Lib.hid (BV.out.trans ((hb).mono BV.out.size))
              clear hb
              go_simp
              refine hK.out _ _ ?_ (fun hHeld => ?_)
              · exact ⟨(C5.out _ BV.out).1, (C5.out _ BV.out).2, (C8.out _ BV.out).1, (C8.out _ BV.out).2.1, (C8.out _ BV.out).2.2⟩
              clear hK K
              (try simp only [Act.put])
              (try simp only [List.setIfInBounds_toArray])
              (try simp only [List.set_cons_succ])
              (try simp only [List.set_cons_zero])
              refine wpAnyH_ready (rs := [13, 20]) (by kernel_rfl) (by simp) ?_
              refine AllReadyH.cons (o := { dst := some 82, op := Op.call { callee := Callee.value (Operand.func 28), args := #[Operand.tmp 69, Operand.tmp 71, Operand.tmp 72, Operand.tmp 75, Operand.tmp 81], argTypes := #[31, 3, 42, 45, 45] }, type := 50, pos := "law.go:278", after := #[{ on := 0, ground := Ground.data }, { on := 2, ground := Ground.data }, { on := 3, ground := Ground.data }, { on := 6, ground := Ground.data }, { on := 12, ground := Ground.data }, { on := 12, ground := Ground.chain }], guard := none }) rfl (fun K hK => ?_) ?_
              · skip
                go_simp
                go_at_call 28
                have hl_b := BV.out.size
                have hl_X13 := X13.out.lt
                refine (SW.out _ _ MM.out).mono ?_
                rintro e v131 ⟨z1, z2, rfl, hmx, hb⟩
                replace MM := Lib.hid (hmx.imp (D' := (fun b => b ≠ b5 ∧ b ≠ b8 ∧ b ≠ b9 ∧ b ≠ p13)) (fun b hb => by rcases hb with hb | hb <;> (try simp only [ne_eq] at hb ⊢) <;> omega))
                clear hmx hl_b hl_X13
                replace X13 := Lib.hid (X13.out.below (hb))
                replace BV := Lib.hid (BV.out.trans ((hb).mono BV.out.size))
                clear hb
                go_simp
                refine hK.out _ _ ?_ (fun hHeld => ?_)
                · exact ⟨(C5.out _ BV.out).1, (C5.out _ BV.out).2, (C8.out _ BV.out).1, (C8.out _ BV.out).2.1, (C8.out _ BV.out).2.2⟩
                clear hK K
                (try simp only [Act.put])
                (try simp only [List.setIfInBounds_toArray])
                (try simp only [List.set_cons_succ])
                (try simp only [List.set_cons_zero])
                refine wpAnyH_take (i := 14) (oi := { dst := some 68, op := Op.move (Operand.tmp 82), type := 50, pos := "law.go:278", after := #[{ on := 13, ground := Ground.data }], guard := none }) (v := ?d132_38xv14) rfl (by kernel_rfl) (by kernel_rfl) (by kernel_rfl) (fun _ _ _ h => h) (Or.inl ⟨by rfl, ?d132_38xy14⟩) (by assumption) ?d132_38xr14
                case d132_38xy14 => (intro w hSw; (try dsimp only at hSw); go_simp; try with_reducible rfl)
                (try simp only [Act.put])
                (try simp only [List.setIfInBounds_toArray])
                (try simp only [List.set_cons_succ])
                (try simp only [List.set_cons_zero])
                refine wpAnyH_take (i := 15) (oi := { dst := some 83, op := Op.extract (Operand.tmp 68) 0, type := 31, pos := "law.go:278", after := #[{ on := 14, ground := Ground.data }], guard := none }) (v := ?d132_39xv15) rfl (by kernel_rfl) (by kernel_rfl) (by kernel_rfl) (fun _ _ _ h => h) (Or.inl ⟨by rfl, ?d132_39xy15⟩) (by assumption) ?d132_39xr15
                case d132_39xy15 => (intro w hSw; (try dsimp only at hSw); go_simp; try with_reducible rfl)
                (try simp only [Act.put])
                (try simp only [List.setIfInBounds_toArray])
                (try simp only [List.set_cons_succ])
                (try simp only [List.set_cons_zero])
                refine wpAnyH_take (i := 16) (oi := { dst := some 84, op := Op.extract (Operand.tmp 68) 1, type := 45, pos := "law.go:278", after := #[{ on := 14, ground := Ground.data }, { on := 21, ground := Ground.gcOnly Departure.lateStores }], guard := none }) (v := ?d132_40xv16) rfl (by kernel_rfl) (by kernel_rfl) (by kernel_rfl) (fun _ _ _ h => h) (Or.inl ⟨by rfl, ?d132_40xy16⟩) (by assumption) ?d132_40xr16
                case d132_40xy16 => (intro w hSw; (try dsimp only at hSw); go_simp; try with_reducible rfl)
                (try simp only [Act.put])
                (try simp only [List.setIfInBounds_toArray])
                (try simp only [List.set_cons_succ])
                (try simp only [List.set_cons_zero])
                refine wpAnyH_take (i := 17) (oi := { dst := some 85, op := Op.extract (Operand.tmp 68) 2, type := 4, pos := "law.go:278", after := #[{ on := 14, ground := Ground.data }, { on := 22, ground := Ground.gcOnly Departure.lateStores }], guard := none }) (v := ?d132_41xv17) rfl (by kernel_rfl) (by kernel_rfl) (by kernel_rfl) (fun _ _ _ h => h) (Or.inl ⟨by rfl, ?d132_41xy17⟩) (by assumption) ?d132_41xr17
                case d132_41xy17 => (intro w hSw; (try dsimp only at hSw); go_simp; try with_reducible rfl)
                (try simp only [Act.put])
                (try simp only [List.setIfInBounds_toArray])
                (try simp only [List.set_cons_succ])
                (try simp only [List.set_cons_zero])
                refine wpAnyH_take (i := 18) (oi := { dst := some 86, op := Op.extract (Operand.tmp 68) 3, type := 32, pos := "law.go:278", after := #[{ on := 14, ground := Ground.data }, { on := 23, ground := Ground.gcOnly Departure.lateStores }], guard := none }) (v := ?d132_42xv18) rfl (by kernel_rfl) (by kernel_rfl) (by kernel_rfl) (fun _ _ _ h => h) (Or.inl ⟨by rfl, ?d132_42xy18⟩) (by assumption) ?d132_42xr18
                case d132_42xy18 => (intro w hSw; (try dsimp only at hSw); go_simp; try with_reducible rfl)
                (try simp only [Act.put])
                (try simp only [List.setIfInBounds_toArray])
                (try simp only [List.set_cons_succ])
                (try simp only [List.set_cons_zero])
                refine wpAnyH_ready (rs := [20]) (by kernel_rfl) (by simp) ?_
                refine AllReadyH.cons (o := { dst := some 14, op := Op.alloc 45, type := 0, pos := "law.go:278", after := #[], guard := none }) rfl (fun K hK => ?_) AllReadyH.nil
                go_simp
                have hlt_p14 := BV.out.size
                have hlt_p14_X13 := X13.out.lt
                have MM' := Lib.hid MM.out.addne
                clear MM
                have MM := MM'
                clear MM'
                replace X13 := Lib.hid (X13.out.below (below_new v131 (.cells #[.int .i64 0, .int .u32 0, .int .u32 0] 45)))
                replace MM := Lib.hid (MM.out.below (below_new v131 (.cells #[.int .i64 0, .int .u32 0, .int .u32 0] 45)))
                replace BV := Lib.hid (BV.out.trans ((below_new v131 (.cells #[.int .i64 0, .int .u32 0, .int .u32 0] 45)).mono BV.out.size))
                have X14 := Lib.hid (Box.new v131 #[.int .i64 0, .int .u32 0, .int .u32 0] 45 rfl)
                generalize World.alloc v131 (.cells #[.int .i64 0, .int .u32 0, .int .u32 0] 45) = v132 at *
                generalize World.heap v131 = hp_p14 at *
                generalize hp_p14.size = p14 at *
                refine hK.out _ _ ?_ (fun hHeld => ?_)
                · exact ⟨(C5.out _ BV.out).1, (C5.out _ BV.out).2, (C8.out _ BV.out).1, (C8.out _ BV.out).2.1, (C8.out _ BV.out).2.2⟩
                clear hK K
                (try simp only [Act.put])
                (try simp only [List.setIfInBounds_toArray])
                (try simp only [List.set_cons_succ])
                (try simp only [List.set_cons_zero])
                refine wpAnyH_ready (rs := [21]) (by kernel_rfl) (by simp) ?_
                refine AllReadyH.cons (o := { dst := none, op := Op.store 31 (Operand.tmp 13) (Operand.tmp 83), type := 0, pos := "law.go:278", after := #[{ on := 19, ground := Ground.data }, { on := 15, ground := Ground.data }, { on := 13, ground := Ground.chain }, { on := 0, ground := Ground.phase }, { on := 1, ground := Ground.phase }, { on := 2, ground := Ground.phase }, { on := 3, ground := Ground.phase }, { on := 4, ground := Ground.phase }, { on := 5, ground := Ground.phase }, { on := 6, ground := Ground.phase }, { on := 7, ground := Ground.phase }, { on := 8, ground := Ground.phase }, { on := 9, ground := Ground.phase }, { on := 10, ground := Ground.phase }, { on := 11, ground := Ground.phase }, { on := 12, ground := Ground.phase }, { on := 13, ground := Ground.phase }, { on := 14, ground := Ground.phase }, { on := 15, ground := Ground.phase }, { on := 16, ground := Ground.textOnly Departure.lateStores }, { on := 17, ground := Ground.textOnly Departure.lateStores }, { on := 18, ground := Ground.textOnly Departure.lateStores }, { on := 19, ground := Ground.phase }, { on := 20, ground := Ground.phase }], guard := none }) rfl (fun K hK => ?_) AllReadyH.nil
                obtain ⟨⟨m0, m1⟩, g0, g1⟩ := X13.out.cells2
                go_simp
                clear m0 g0 m1 g1
                replace MM := Lib.hid (MM.out.only X13.out (by simp) (((Only.refl p13 v132).set 0 (.slice z1 3 3)).set 1 (.slice z2 3 3)))
                replace X14 := Lib.hid (X14.out.only (by omega) (((Only.refl p13 v132).set 0 (.slice z1 3 3)).set 1 (.slice z2 3 3)))
                replace BV := Lib.hid (((BV.out).put p13 (by omega) 0 (.slice z1 3 3)).put p13 (by omega) 1 (.slice z2 3 3))
                replace X13 := Lib.hid (((X13.out).set 0 (.slice z1 3 3)).set 1 (.slice z2 3 3))
                generalize (World.setCell (World.setCell v132 ⟨p13, 0, none⟩ (.slice z1 3 3)) ⟨p13, 1, none⟩ (.slice z2 3 3)) = v133 at *
                refine hK.out _ _ ?_ (fun hHeld => ?_)
                · exact ⟨(C5.out _ BV.out).1, (C5.out _ BV.out).2, (C8.out _ BV.out).1, (C8.out _ BV.out).2.1, (C8.out _ BV.out).2.2⟩
                clear hK K
                (try simp only [Act.put])
                (try simp only [List.setIfInBounds_toArray])
                (try simp only [List.set_cons_succ])
                (try simp only [List.set_cons_zero])
                refine wpAnyH_ready (rs := [22]) (by kernel_rfl) (by simp) ?_
                refine AllReadyH.cons (o := { dst := none, op := Op.store 45 (Operand.tmp 14) (Operand.tmp 84), type := 0, pos := "law.go:278", after := #[{ on := 20, ground := Ground.data }, { on := 16, ground := Ground.data }, { on := 21, ground := Ground.chain }, { on := 0, ground := Ground.phase }, { on := 1, ground := Ground.phase }, { on := 2, ground := Ground.phase }, { on := 3, ground := Ground.phase }, { on := 4, ground := Ground.phase }, { on := 5, ground := Ground.phase }, { on := 6, ground := Ground.phase }, { on := 7, ground := Ground.phase }, { on := 8, ground := Ground.phase }, { on := 9, ground := Ground.phase }, { on := 10, ground := Ground.phase }, { on := 11, ground := Ground.phase }, { on := 12, ground := Ground.phase }, { on := 13, ground := Ground.phase }, { on := 14, ground := Ground.phase }, { on := 15, ground := Ground.phase }, { on := 16, ground := Ground.phase }, { on := 17, ground := Ground.textOnly Departure.lateStores }, { on := 18, ground := Ground.textOnly Departure.lateStores }, { on := 19, ground := Ground.phase }, { on := 20, ground := Ground.phase }, { on := 21, ground := Ground.phase }], guard := none }) rfl (fun K hK => ?_) AllReadyH.nil
                obtain ⟨⟨m0, m1, m2⟩, g0, g1, g2⟩ := X14.out.cells3
                go_simp
                clear m0 g0 m1 g1 m2 g2
                replace X13 := Lib.hid (X13.out.only (by omega) ((((Only.refl p14 v133).set 0 (.int .i64 n)).set 1 (.int .u32 0)).set 2 (.int .u32 0)))
                replace MM := Lib.hid (MM.out.only X14.out (by simp) ((((Only.refl p14 v133).set 0 (.int .i64 n)).set 1 (.int .u32 0)).set 2 (.int .u32 0)))
                replace BV := Lib.hid ((((BV.out).put p14 (by omega) 0 (.int .i64 n)).put p14 (by omega) 1 (.int .u32 0)).put p14 (by omega) 2 (.int .u32 0))
                replace X14 := Lib.hid ((((X14.out).set 0 (.int .i64 n)).set 1 (.int .u32 0)).set 2 (.int .u32 0))
                generalize (World.setCell (World.setCell (World.setCell v133 ⟨p14, 0, none⟩ (.int .i64 n)) ⟨p14, 1, none⟩ (.int .u32 0)) ⟨p14, 2, none⟩ (.int .u32 0)) = v134 at *
                refine hK.out _ _ ?_ (fun hHeld => ?_)
                · exact ⟨(C5.out _ BV.out).1, (C5.out _ BV.out).2, (C8.out _ BV.out).1, (C8.out _ BV.out).2.1, (C8.out _ BV.out).2.2⟩
                clear hK K
                (try simp only [Act.put])
                (try simp only [List.setIfInBounds_toArray])
                (try simp only [List.set_cons_succ])
                (try simp only [List.set_cons_zero])
                refine wpAnyH_ready (rs := [23]) (by kernel_rfl) (by simp) ?_
                refine AllReadyH.cons (o := { dst := some 15, op := Op.assign (Operand.tmp 85), type := 4, pos := "law.go:278", after := #[{ on := 17, ground := Ground.data }, { on := 22, ground := Ground.chain }, { on := 0, ground := Ground.phase }, { on := 1, ground := Ground.phase }, { on := 2, ground := Ground.phase }, { on := 3, ground := Ground.phase }, { on := 4, ground := Ground.phase }, { on := 5, ground := Ground.phase }, { on := 6, ground := Ground.phase }, { on := 7, ground := Ground.phase }, { on := 8, ground := Ground.phase }, { on := 9, ground := Ground.phase }, { on := 10, ground := Ground.phase }, { on := 11, ground := Ground.phase }, { on := 12, ground := Ground.phase }, { on := 13, ground := Ground.phase }, { on := 14, ground := Ground.phase }, { on := 15, ground := Ground.phase }, { on := 16, ground := Ground.phase }, { on := 17, ground := Ground.phase }, { on := 18, ground := Ground.textOnly Departure.lateStores }, { on := 19, ground := Ground.phase }, { on := 20, ground := Ground.phase }, { on := 21, ground := Ground.phase }, { on := 22, ground := Ground.phase }], guard := none }) rfl (fun K hK => ?_) AllReadyH.nil
                go_simp
                refine hK.out _ _ ?_ (fun hHeld => ?_)
                · exact ⟨(C5.out _ BV.out).1, (C5.out _ BV.out).2, (C8.out _ BV.out).1, (C8.out _ BV.out).2.1, (C8.out _ BV.out).2.2⟩
                clear hK K
                (try simp only [Act.put])
                (try simp only [List.setIfInBounds_toArray])
                (try simp only [List.set_cons_succ])
                (try simp only [List.set_cons_zero])
                refine wpAnyH_ready (rs := [24]) (by kernel_rfl) (by simp) ?_
                refine AllReadyH.cons (o := { dst := some 16, op := Op.assign (Operand.tmp 86), type := 32, pos := "law.go:278", after := #[{ on := 18, ground := Ground.data }, { on := 23, ground := Ground.chain }, { on := 0, ground := Ground.phase }, { on := 1, ground := Ground.phase }, { on := 2, ground := Ground.phase }, { on := 3, ground := Ground.phase }, { on := 4, ground := Ground.phase }, { on := 5, ground := Ground.phase }, { on := 6, ground := Ground.phase }, { on := 7, ground := Ground.phase }, { on := 8, ground := Ground.phase }, { on := 9, ground := Ground.phase }, { on := 10, ground := Ground.phase }, { on := 11, ground := Ground.phase }, { on := 12, ground := Ground.phase }, { on := 13, ground := Ground.phase }, { on := 14, ground := Ground.phase }, { on := 15, ground := Ground.phase }, { on := 16, ground := Ground.phase }, { on := 17, ground := Ground.phase }, { on := 18, ground := Ground.phase }, { on := 19, ground := Ground.phase }, { on := 20, ground := Ground.phase }, { on := 21, ground := Ground.phase }, { on := 22, ground := Ground.phase }, { on := 23, ground := Ground.phase }], guard := none }) rfl (fun K hK => ?_) AllReadyH.nil
                go_simp
                refine hK.out _ _ ?_ (fun hHeld => ?_)
                · exact ⟨(C5.out _ BV.out).1, (C5.out _ BV.out).2, (C8.out _ BV.out).1, (C8.out _ BV.out).2.1, (C8.out _ BV.out).2.2⟩
                clear hK K
                (try simp only [Act.put])
                (try simp only [List.setIfInBounds_toArray])
                (try simp only [List.set_cons_succ])
                (try simp only [List.set_cons_zero])
                refine wpAnyH_done (by kernel_rfl) ?_ _
                clear hHeld
                replace MM := Lib.hid (MM.out.imp (D' := (fun b => b ≠ b5 ∧ b ≠ b8 ∧ b ≠ b9)) (fun b hb => by (try simp only [ne_eq] at hb ⊢); omega))
                go_wp2_with fail
                go_meet
                case rel => exact ⟨_, _, _, rfl, rfl, rfl, X13.out, MM.out, BV.out⟩
              refine AllReadyH.cons (o := { dst := some 14, op := Op.alloc 45, type := 0, pos := "law.go:278", after := #[], guard := none }) rfl (fun K hK => ?_) AllReadyH.nil
              go_simp
              have hlt_p14 := BV.out.size
              have hlt_p14_X13 := X13.out.lt
              have MM' := Lib.hid MM.out.addne
              clear MM
              have MM := MM'
              clear MM'
              replace MM := Lib.hid (MM.out.below (below_new v130 (.cells #[.int .i64 0, .int .u32 0, .int .u32 0] 45)))
              replace X13 := Lib.hid (X13.out.below (below_new v130 (.cells #[.int .i64 0, .int .u32 0, .int .u32 0] 45)))
              replace BV := Lib.hid (BV.out.trans ((below_new v130 (.cells #[.int .i64 0, .int .u32 0, .int .u32 0] 45)).mono BV.out.size))
              have X14 := Lib.hid (Box.new v130 #[.int .i64 0, .int .u32 0, .int .u32 0] 45 rfl)
              generalize World.alloc v130 (.cells #[.int .i64 0, .int .u32 0, .int .u32 0] 45) = v135 at *
              generalize World.heap v130 = hp_p14 at *
              generalize hp_p14.size = p14 at *
              refine hK.out _ _ ?_ (fun hHeld => ?_)
              · exact ⟨(C5.out _ BV.out).1, (C5.out _ BV.out).2, (C8.out _ BV.out).1, (C8.out _ BV.out).2.1, (C8.out _ BV.out).2.2⟩
              clear hK K
              (try simp only [Act.put])
              (try simp only [List.setIfInBounds_toArray])
              (try simp only [List.set_cons_succ])
              (try simp only [List.set_cons_zero])
              refine wpAnyH_ready (rs := [13]) (by kernel_rfl) (by simp) ?_
              refine AllReadyH.cons (o := { dst := some 82, op := Op.call { callee := Callee.value (Operand.func 28), args := #[Operand.tmp 69, Operand.tmp 71, Operand.tmp 72, Operand.tmp 75, Operand.tmp 81], argTypes := #[31, 3, 42, 45, 45] }, type := 50, pos := "law.go:278", after := #[{ on := 0, ground := Ground.data }, { on := 2, ground := Ground.data }, { on := 3, ground := Ground.data }, { on := 6, ground := Ground.data }, { on := 12, ground := Ground.data }, { on := 12, ground := Ground.chain }], guard := none }) rfl (fun K hK => ?_) AllReadyH.nil
              go_simp
              go_at_call 28
              have hl_b := BV.out.size
              have hl_X13 := X13.out.lt
              have hl_X14 := X14.out.lt
              refine (SW.out _ _ MM.out).mono ?_
              rintro e v136 ⟨z1, z2, rfl, hmx, hb⟩
              replace MM := Lib.hid (hmx.imp (D' := (fun b => b ≠ b5 ∧ b ≠ b8 ∧ b ≠ b9 ∧ b ≠ p13 ∧ b ≠ p14)) (fun b hb => by rcases hb with hb | hb <;> (try simp only [ne_eq] at hb ⊢) <;> omega))
              clear hmx hl_b hl_X13 hl_X14
              replace X13 := Lib.hid (X13.out.below (hb))
              replace X14 := Lib.hid (X14.out.below (hb))
              replace BV := Lib.hid (BV.out.trans ((hb).mono BV.out.size))
              clear hb
              go_simp
              refine hK.out _ _ ?_ (fun hHeld => ?_)
              · exact ⟨(C5.out _ BV.out).1, (C5.out _ BV.out).2, (C8.out _ BV.out).1, (C8.out _ BV.out).2.1, (C8.out _ BV.out).2.2⟩
              clear hK K
              (try simp only [Act.put])
              (try simp only [List.setIfInBounds_toArray])
              (try simp only [List.set_cons_succ])
              (try simp only [List.set_cons_zero])
              refine wpAnyH_take (i := 14) (oi := { dst := some 68, op := Op.move (Operand.tmp 82), type := 50, pos := "law.go:278", after := #[{ on := 13, ground := Ground.data }], guard := none }) (v := ?d137_43xv14) rfl (by kernel_rfl) (by kernel_rfl) (by kernel_rfl) (fun _ _ _ h => h) (Or.inl ⟨by rfl, ?d137_43xy14⟩) (by assumption) ?d137_43xr14
              case d137_43xy14 => (intro w hSw; (try dsimp only at hSw); go_simp; try with_reducible rfl)
              (try simp only [Act.put])
              (try simp only [List.setIfInBounds_toArray])
              (try simp only [List.set_cons_succ])
              (try simp only [List.set_cons_zero])
              refine wpAnyH_take (i := 15) (oi := { dst := some 83, op := Op.extract (Operand.tmp 68) 0, type := 31, pos := "law.go:278", after := #[{ on := 14, ground := Ground.data }], guard := none }) (v := ?d137_44xv15) rfl (by kernel_rfl) (by kernel_rfl) (by kernel_rfl) (fun _ _ _ h => h) (Or.inl ⟨by rfl, ?d137_44xy15⟩) (by assumption) ?d137_44xr15
              case d137_44xy15 => (intro w hSw; (try dsimp only at hSw); go_simp; try with_reducible rfl)
              (try simp only [Act.put])
              (try simp only [List.setIfInBounds_toArray])
              (try simp only [List.set_cons_succ])
              (try simp only [List.set_cons_zero])
              refine wpAnyH_take (i := 16) (oi := { dst := some 84, op := Op.extract (Operand.tmp 68) 1, type := 45, pos := "law.go:278", after := #[{ on := 14, ground := Ground.data }, { on := 21, ground := Ground.gcOnly Departure.lateStores }], guard := none }) (v := ?d137_45xv16) rfl (by kernel_rfl) (by kernel_rfl) (by kernel_rfl) (fun _ _ _ h => h) (Or.inl ⟨by rfl, ?d137_45xy16⟩) (by assumption) ?d137_45xr16
              case d137_45xy16 => (intro w hSw; (try dsimp only at hSw); go_simp; try with_reducible rfl)
              (try simp only [Act.put])
              (try simp only [List.setIfInBounds_toArray])
              (try simp only [List.set_cons_succ])
              (try simp only [List.set_cons_zero])
              refine wpAnyH_take (i := 17) (oi := { dst := some 85, op := Op.extract (Operand.tmp 68) 2, type := 4, pos := "law.go:278", after := #[{ on := 14, ground := Ground.data }, { on := 22, ground := Ground.gcOnly Departure.lateStores }], guard := none }) (v := ?d137_46xv17) rfl (by kernel_rfl) (by kernel_rfl) (by kernel_rfl) (fun _ _ _ h => h) (Or.inl ⟨by rfl, ?d137_46xy17⟩) (by assumption) ?d137_46xr17
              case d137_46xy17 => (intro w hSw; (try dsimp only at hSw); go_simp; try with_reducible rfl)
              (try simp only [Act.put])
              (try simp only [List.setIfInBounds_toArray])
              (try simp only [List.set_cons_succ])
              (try simp only [List.set_cons_zero])
              refine wpAnyH_take (i := 18) (oi := { dst := some 86, op := Op.extract (Operand.tmp 68) 3, type := 32, pos := "law.go:278", after := #[{ on := 14, ground := Ground.data }, { on := 23, ground := Ground.gcOnly Departure.lateStores }], guard := none }) (v := ?d137_47xv18) rfl (by kernel_rfl) (by kernel_rfl) (by kernel_rfl) (fun _ _ _ h => h) (Or.inl ⟨by rfl, ?d137_47xy18⟩) (by assumption) ?d137_47xr18
              case d137_47xy18 => (intro w hSw; (try dsimp only at hSw); go_simp; try with_reducible rfl)
              (try simp only [Act.put])
              (try simp only [List.setIfInBounds_toArray])
              (try simp only [List.set_cons_succ])
              (try simp only [List.set_cons_zero])
              refine wpAnyH_ready (rs := [21]) (by kernel_rfl) (by simp) ?_
              refine AllReadyH.cons (o := { dst := none, op := Op.store 31 (Operand.tmp 13) (Operand.tmp 83), type := 0, pos := "law.go:278", after := #[{ on := 19, ground := Ground.data }, { on := 15, ground := Ground.data }, { on := 13, ground := Ground.chain }, { on := 0, ground := Ground.phase }, { on := 1, ground := Ground.phase }, { on := 2, ground := Ground.phase }, { on := 3, ground := Ground.phase }, { on := 4, ground := Ground.phase }, { on := 5, ground := Ground.phase }, { on := 6, ground := Ground.phase }, { on := 7, ground := Ground.phase }, { on := 8, ground := Ground.phase }, { on := 9, ground := Ground.phase }, { on := 10, ground := Ground.phase }, { on := 11, ground := Ground.phase }, { on := 12, ground := Ground.phase }, { on := 13, ground := Ground.phase }, { on := 14, ground := Ground.phase }, { on := 15, ground := Ground.phase }, { on := 16, ground := Ground.textOnly Departure.lateStores }, { on := 17, ground := Ground.textOnly Departure.lateStores }, { on := 18, ground := Ground.textOnly Departure.lateStores }, { on := 19, ground := Ground.phase }, { on := 20, ground := Ground.phase }], guard := none }) rfl (fun K hK => ?_) AllReadyH.nil
              obtain ⟨⟨m0, m1⟩, g0, g1⟩ := X13.out.cells2
              go_simp
              clear m0 g0 m1 g1
              replace X14 := Lib.hid (X14.out.only (by omega) (((Only.refl p13 v136).set 0 (.slice z1 3 3)).set 1 (.slice z2 3 3)))
              replace MM := Lib.hid (MM.out.only X13.out (by simp) (((Only.refl p13 v136).set 0 (.slice z1 3 3)).set 1 (.slice z2 3 3)))
              replace BV := Lib.hid (((BV.out).put p13 (by omega) 0 (.slice z1 3 3)).put p13 (by omega) 1 (.slice z2 3 3))
              replace X13 := Lib.hid (((X13.out).set 0 (.slice z1 3 3)).set 1 (.slice z2 3 3))
              generalize (World.setCell (World.setCell v136 ⟨p13, 0, none⟩ (.slice z1 3 3)) ⟨p13, 1, none⟩ (.slice z2 3 3)) = v137 at *
              refine hK.out _ _ ?_ (fun hHeld => ?_)
              · exact ⟨(C5.out _ BV.out).1, (C5.out _ BV.out).2, (C8.out _ BV.out).1, (C8.out _ BV.out).2.1, (C8.out _ BV.out).2.2⟩
              clear hK K
              (try simp only [Act.put])
              (try simp only [List.setIfInBounds_toArray])
              (try simp only [List.set_cons_succ])
              (try simp only [List.set_cons_zero])
              refine wpAnyH_ready (rs := [22]) (by kernel_rfl) (by simp) ?_
              refine AllReadyH.cons (o := { dst := none, op := Op.store 45 (Operand.tmp 14) (Operand.tmp 84), type := 0, pos := "law.go:278", after := #[{ on := 20, ground := Ground.data }, { on := 16, ground := Ground.data }, { on := 21, ground := Ground.chain }, { on := 0, ground := Ground.phase }, { on := 1, ground := Ground.phase }, { on := 2, ground := Ground.phase }, { on := 3, ground := Ground.phase }, { on := 4, ground := Ground.phase }, { on := 5, ground := Ground.phase }, { on := 6, ground := Ground.phase }, { on := 7, ground := Ground.phase }, { on := 8, ground := Ground.phase }, { on := 9, ground := Ground.phase }, { on := 10, ground := Ground.phase }, { on := 11, ground := Ground.phase }, { on := 12, ground := Ground.phase }, { on := 13, ground := Ground.phase }, { on := 14, ground := Ground.phase }, { on := 15, ground := Ground.phase }, { on := 16, ground := Ground.phase }, { on := 17, ground := Ground.textOnly Departure.lateStores }, { on := 18, ground := Ground.textOnly Departure.lateStores }, { on := 19, ground := Ground.phase }, { on := 20, ground := Ground.phase }, { on := 21, ground := Ground.phase }], guard := none }) rfl (fun K hK => ?_) AllReadyH.nil
              obtain ⟨⟨m0, m1, m2⟩, g0, g1, g2⟩ := X14.out.cells3
              go_simp
              clear m0 g0 m1 g1 m2 g2
              replace X13 := Lib.hid (X13.out.only (by omega) ((((Only.refl p14 v137).set 0 (.int .i64 n)).set 1 (.int .u32 0)).set 2 (.int .u32 0)))
              replace MM := Lib.hid (MM.out.only X14.out (by simp) ((((Only.refl p14 v137).set 0 (.int .i64 n)).set 1 (.int .u32 0)).set 2 (.int .u32 0)))
              replace BV := Lib.hid ((((BV.out).put p14 (by omega) 0 (.int .i64 n)).put p14 (by omega) 1 (.int .u32 0)).put p14 (by omega) 2 (.int .u32 0))
              replace X14 := Lib.hid ((((X14.out).set 0 (.int .i64 n)).set 1 (.int .u32 0)).set 2 (.int .u32 0))
              generalize (World.setCell (World.setCell (World.setCell v137 ⟨p14, 0, none⟩ (.int .i64 n)) ⟨p14, 1, none⟩ (.int .u32 0)) ⟨p14, 2, none⟩ (.int .u32 0)) = v138 at *
              refine hK.out _ _ ?_ (fun hHeld => ?_)
              · exact ⟨(C5.out _ BV.out).1, (C5.out _ BV.out).2, (C8.out _ BV.out).1, (C8.out _ BV.out).2.1, (C8.out _ BV.out).2.2⟩
              clear hK K
              (try simp only [Act.put])
              (try simp only [List.setIfInBounds_toArray])
              (try simp only [List.set_cons_succ])
              (try simp only [List.set_cons_zero])
              refine wpAnyH_ready (rs := [23]) (by kernel_rfl) (by simp) ?_
              refine AllReadyH.cons (o := { dst := some 15, op := Op.assign (Operand.tmp 85), type := 4, pos := "law.go:278", after := #[{ on := 17, ground := Ground.data }, { on := 22, ground := Ground.chain }, { on := 0, ground := Ground.phase }, { on := 1, ground := Ground.phase }, { on := 2, ground := Ground.phase }, { on := 3, ground := Ground.phase }, { on := 4, ground := Ground.phase }, { on := 5, ground := Ground.phase }, { on := 6, ground := Ground.phase }, { on := 7, ground := Ground.phase }, { on := 8, ground := Ground.phase }, { on := 9, ground := Ground.phase }, { on := 10, ground := Ground.phase }, { on := 11, ground := Ground.phase }, { on := 12, ground := Ground.phase }, { on := 13, ground := Ground.phase }, { on := 14, ground := Ground.phase }, { on := 15, ground := Ground.phase }, { on := 16, ground := Ground.phase }, { on := 17, ground := Ground.phase }, { on := 18, ground := Ground.textOnly Departure.lateStores }, { on := 19, ground := Ground.phase }, { on := 20, ground := Ground.phase }, { on := 21, ground := Ground.phase }, { on := 22, ground := Ground.phase }], guard := none }) rfl (fun K hK => ?_) AllReadyH.nil
              go_simp
              refine hK.out _ _ ?_ (fun hHeld => ?_)
              · exact ⟨(C5.out _ BV.out).1, (C5.out _ BV.out).2, (C8.out _ BV.out).1, (C8.out _ BV.out).2.1, (C8.out _ BV.out).2.2⟩
              clear hK K
              (try simp only [Act.put])
              (try simp only [List.setIfInBounds_toArray])
              (try simp only [List.set_cons_succ])
              (try simp only [List.set_cons_zero])
              refine wpAnyH_ready (rs := [24]) (by kernel_rfl) (by simp) ?_
              refine AllReadyH.cons (o := { dst := some 16, op := Op.assign (Operand.tmp 86), type := 32, pos := "law.go:278", after := #[{ on := 18, ground := Ground.data }, { on := 23, ground := Ground.chain }, { on := 0, ground := Ground.phase }, { on := 1, ground := Ground.phase }, { on := 2, ground := Ground.phase }, { on := 3, ground := Ground.phase }, { on := 4, ground := Ground.phase }, { on := 5, ground := Ground.phase }, { on := 6, ground := Ground.phase }, { on := 7, ground := Ground.phase }, { on := 8, ground := Ground.phase }, { on := 9, ground := Ground.phase }, { on := 10, ground := Ground.phase }, { on := 11, ground := Ground.phase }, { on := 12, ground := Ground.phase }, { on := 13, ground := Ground.phase }, { on := 14, ground := Ground.phase }, { on := 15, ground := Ground.phase }, { on := 16, ground := Ground.phase }, { on := 17, ground := Ground.phase }, { on := 18, ground := Ground.phase }, { on := 19, ground := Ground.phase }, { on := 20, ground := Ground.phase }, { on := 21, ground := Ground.phase }, { on := 22, ground := Ground.phase }, { on := 23, ground := Ground.phase }], guard := none }) rfl (fun K hK => ?_) AllReadyH.nil
              go_simp
              refine hK.out _ _ ?_ (fun hHeld => ?_)
              · exact ⟨(C5.out _ BV.out).1, (C5.out _ BV.out).2, (C8.out _ BV.out).1, (C8.out _ BV.out).2.1, (C8.out _ BV.out).2.2⟩
              clear hK K
              (try simp only [Act.put])
              (try simp only [List.setIfInBounds_toArray])
              (try simp only [List.set_cons_succ])
              (try simp only [List.set_cons_zero])
              refine wpAnyH_done (by kernel_rfl) ?_ _
              clear hHeld
              replace MM := Lib.hid (MM.out.imp (D' := (fun b => b ≠ b5 ∧ b ≠ b8 ∧ b ≠ b9)) (fun b hb => by (try simp only [ne_eq] at hb ⊢); omega))
              go_wp2_with fail
              go_meet
              case rel => exact ⟨_, _, _, rfl, rfl, rfl, X13.out, MM.out, BV.out⟩
            refine AllReadyH.cons (o := { dst := some 14, op := Op.alloc 45, type := 0, pos := "law.go:278", after := #[], guard := none }) rfl (fun K hK => ?_) AllReadyH.nil
            go_simp
            have hlt_p14 := BV.out.size
            have hlt_p14_X13 := X13.out.lt
            have MM' := Lib.hid MM.out.addne
            clear MM
            have MM := MM'
            clear MM'
            replace MM := Lib.hid (MM.out.below (below_new v129 (.cells #[.int .i64 0, .int .u32 0, .int .u32 0] 45)))
            replace X13 := Lib.hid (X13.out.below (below_new v129 (.cells #[.int .i64 0, .int .u32 0, .int .u32 0] 45)))
            replace BV := Lib.hid (BV.out.trans ((below_new v129 (.cells #[.int .i64 0, .int .u32 0, .int .u32 0] 45)).mono BV.out.size))
            have X14 := Lib.hid (Box.new v129 #[.int .i64 0, .int .u32 0, .int .u32 0] 45 rfl)
            generalize World.alloc v129 (.cells #[.int .i64 0, .int .u32 0, .int .u32 0] 45) = v139 at *
            generalize World.heap v129 = hp_p14 at *
            generalize hp_p14.size = p14 at *
            refine hK.out _ _ ?_ (fun hHeld => ?_)
            · exact ⟨(C5.out _ BV.out).1, (C5.out _ BV.out).2, (C8.out _ BV.out).1, (C8.out _ BV.out).2.1, (C8.out _ BV.out).2.2⟩
            clear hK K
            (try simp only [Act.put])
            (try simp only [List.setIfInBounds_toArray])
            (try simp only [List.set_cons_succ])
            (try simp only [List.set_cons_zero])
            refine wpAnyH_ready (rs := [12]) (by kernel_rfl) (by simp) ?_
            refine AllReadyH.cons (o := { dst := some 81, op := Op.call { callee := Callee.value (Operand.func 29), args := #[Operand.tmp 80], argTypes := #[2] }, type := 45, pos := "law.go:278", after := #[{ on := 11, ground := Ground.data }], guard := none }) rfl (fun K hK => ?_) AllReadyH.nil
            go_simp
            go_at_call 29
            refine (word_any (s + 1) _).mono ?_
            rintro e v140 ⟨rfl, hb⟩
            replace MM := Lib.hid (MM.out.below (hb))
            replace X13 := Lib.hid (X13.out.below (hb))
            replace X14 := Lib.hid (X14.out.below (hb))
            replace BV := Lib.hid (BV.out.trans ((hb).mono BV.out.size))
            clear hb
            go_simp
            refine hK.out _ _ ?_ (fun hHeld => ?_)
            · exact ⟨(C5.out _ BV.out).1, (C5.out _ BV.out).2, (C8.out _ BV.out).1, (C8.out _ BV.out).2.1, (C8.out _ BV.out).2.2⟩
            clear hK K
            (try simp only [Act.put])
            (try simp only [List.setIfInBounds_toArray])
            (try simp only [List.set_cons_succ])
            (try simp only [List.set_cons_zero])
            refine wpAnyH_ready (rs := [13]) (by kernel_rfl) (by simp) ?_
            refine AllReadyH.cons (o := { dst := some 82, op := Op.call { callee := Callee.value (Operand.func 28), args := #[Operand.tmp 69, Operand.tmp 71, Operand.tmp 72, Operand.tmp 75, Operand.tmp 81], argTypes := #[31, 3, 42, 45, 45] }, type := 50, pos := "law.go:278", after := #[{ on := 0, ground := Ground.data }, { on := 2, ground := Ground.data }, { on := 3, ground := Ground.data }, { on := 6, ground := Ground.data }, { on := 12, ground := Ground.data }, { on := 12, ground := Ground.chain }], guard := none }) rfl (fun K hK => ?_) AllReadyH.nil
            go_simp
            go_at_call 28
            have hl_b := BV.out.size
            have hl_X13 := X13.out.lt
            have hl_X14 := X14.out.lt
            refine (SW.out _ _ MM.out).mono ?_
            rintro e v141 ⟨z1, z2, rfl, hmx, hb⟩
            replace MM := Lib.hid (hmx.imp (D' := (fun b => b ≠ b5 ∧ b ≠ b8 ∧ b ≠ b9 ∧ b ≠ p13 ∧ b ≠ p14)) (fun b hb => by rcases hb with hb | hb <;> (try simp only [ne_eq] at hb ⊢) <;> omega))
            clear hmx hl_b hl_X13 hl_X14
            replace X13 := Lib.hid (X13.out.below (hb))
            replace X14 := Lib.hid (X14.out.below (hb))
            replace BV := Lib.hid (BV.out.trans ((hb).mono BV.out.size))
            clear hb
            go_simp
            refine hK.out _ _ ?_ (fun hHeld => ?_)
            · exact ⟨(C5.out _ BV.out).1, (C5.out _ BV.out).2, (C8.out _ BV.out).1, (C8.out _ BV.out).2.1, (C8.out _ BV.out).2.2⟩
            clear hK K
            (try simp only [Act.put])
            (try simp only [List.setIfInBounds_toArray])
            (try simp only [List.set_cons_succ])
            (try simp only [List.set_cons_zero])
            refine wpAnyH_take (i := 14) (oi := { dst := some 68, op := Op.move (Operand.tmp 82), type := 50, pos := "law.go:278", after := #[{ on := 13, ground := Ground.data }], guard := none }) (v := ?d142_48xv14) rfl (by kernel_rfl) (by kernel_rfl) (by kernel_rfl) (fun _ _ _ h => h) (Or.inl ⟨by rfl, ?d142_48xy14⟩) (by assumption) ?d142_48xr14
            case d142_48xy14 => (intro w hSw; (try dsimp only at hSw); go_simp; try with_reducible rfl)
            (try simp only [Act.put])
            (try simp only [List.setIfInBounds_toArray])
            (try simp only [List.set_cons_succ])
            (try simp only [List.set_cons_zero])
            refine wpAnyH_take (i := 15) (oi := { dst := some 83, op := Op.extract (Operand.tmp 68) 0, type := 31, pos := "law.go:278", after := #[{ on := 14, ground := Ground.data }], guard := none }) (v := ?d142_49xv15) rfl (by kernel_rfl) (by kernel_rfl) (by kernel_rfl) (fun _ _ _ h => h) (Or.inl ⟨by rfl, ?d142_49xy15⟩) (by assumption) ?d142_49xr15
            case d142_49xy15 => (intro w hSw; (try dsimp only at hSw); go_simp; try with_reducible rfl)
            (try simp only [Act.put])
            (try simp only [List.setIfInBounds_toArray])
            (try simp only [List.set_cons_succ])
            (try simp only [List.set_cons_zero])
            refine wpAnyH_take (i := 16) (oi := { dst := some 84, op := Op.extract (Operand.tmp 68) 1, type := 45, pos := "law.go:278", after := #[{ on := 14, ground := Ground.data }, { on := 21, ground := Ground.gcOnly Departure.lateStores }], guard := none }) (v := ?d142_50xv16) rfl (by kernel_rfl) (by kernel_rfl) (by kernel_rfl) (fun _ _ _ h => h) (Or.inl ⟨by rfl, ?d142_50xy16⟩) (by assumption) ?d142_50xr16
            case d142_50xy16 => (intro w hSw; (try dsimp only at hSw); go_simp; try with_reducible rfl)
            (try simp only [Act.put])
            (try simp only [List.setIfInBounds_toArray])
            (try simp only [List.set_cons_succ])
            (try simp only [List.set_cons_zero])
            refine wpAnyH_take (i := 17) (oi := { dst := some 85, op := Op.extract (Operand.tmp 68) 2, type := 4, pos := "law.go:278", after := #[{ on := 14, ground := Ground.data }, { on := 22, ground := Ground.gcOnly Departure.lateStores }], guard := none }) (v := ?d142_51xv17) rfl (by kernel_rfl) (by kernel_rfl) (by kernel_rfl) (fun _ _ _ h => h) (Or.inl ⟨by rfl, ?d142_51xy17⟩) (by assumption) ?d142_51xr17
            case d142_51xy17 => (intro w hSw; (try dsimp only at hSw); go_simp; try with_reducible rfl)
            (try simp only [Act.put])
            (try simp only [List.setIfInBounds_toArray])
            (try simp only [List.set_cons_succ])
            (try simp only [List.set_cons_zero])
            refine wpAnyH_take (i := 18) (oi := { dst := some 86, op := Op.extract (Operand.tmp 68) 3, type := 32, pos := "law.go:278", after := #[{ on := 14, ground := Ground.data }, { on := 23, ground := Ground.gcOnly Departure.lateStores }], guard := none }) (v := ?d142_52xv18) rfl (by kernel_rfl) (by kernel_rfl) (by kernel_rfl) (fun _ _ _ h => h) (Or.inl ⟨by rfl, ?d142_52xy18⟩) (by assumption) ?d142_52xr18
            case d142_52xy18 => (intro w hSw; (try dsimp only at hSw); go_simp; try with_reducible rfl)
            (try simp only [Act.put])
            (try simp only [List.setIfInBounds_toArray])
            (try simp only [List.set_cons_succ])
            (try simp only [List.set_cons_zero])
            refine wpAnyH_ready (rs := [21]) (by kernel_rfl) (by simp) ?_
            refine AllReadyH.cons (o := { dst := none, op := Op.store 31 (Operand.tmp 13) (Operand.tmp 83), type := 0, pos := "law.go:278", after := #[{ on := 19, ground := Ground.data }, { on := 15, ground := Ground.data }, { on := 13, ground := Ground.chain }, { on := 0, ground := Ground.phase }, { on := 1, ground := Ground.phase }, { on := 2, ground := Ground.phase }, { on := 3, ground := Ground.phase }, { on := 4, ground := Ground.phase }, { on := 5, ground := Ground.phase }, { on := 6, ground := Ground.phase }, { on := 7, ground := Ground.phase }, { on := 8, ground := Ground.phase }, { on := 9, ground := Ground.phase }, { on := 10, ground := Ground.phase }, { on := 11, ground := Ground.phase }, { on := 12, ground := Ground.phase }, { on := 13, ground := Ground.phase }, { on := 14, ground := Ground.phase }, { on := 15, ground := Ground.phase }, { on := 16, ground := Ground.textOnly Departure.lateStores }, { on := 17, ground := Ground.textOnly Departure.lateStores }, { on := 18, ground := Ground.textOnly Departure.lateStores }, { on := 19, ground := Ground.phase }, { on := 20, ground := Ground.phase }], guard := none }) rfl (fun K hK => ?_) AllReadyH.nil
            obtain ⟨⟨m0, m1⟩, g0, g1⟩ := X13.out.cells2
            go_simp
            clear m0 g0 m1 g1
            replace X14 := Lib.hid (X14.out.only (by omega) (((Only.refl p13 v141).set 0 (.slice z1 3 3)).set 1 (.slice z2 3 3)))
            replace MM := Lib.hid (MM.out.only X13.out (by simp) (((Only.refl p13 v141).set 0 (.slice z1 3 3)).set 1 (.slice z2 3 3)))
            replace BV := Lib.hid (((BV.out).put p13 (by omega) 0 (.slice z1 3 3)).put p13 (by omega) 1 (.slice z2 3 3))
            replace X13 := Lib.hid (((X13.out).set 0 (.slice z1 3 3)).set 1 (.slice z2 3 3))
            generalize (World.setCell (World.setCell v141 ⟨p13, 0, none⟩ (.slice z1 3 3)) ⟨p13, 1, none⟩ (.slice z2 3 3)) = v142 at *
            refine hK.out _ _ ?_ (fun hHeld => ?_)
            · exact ⟨(C5.out _ BV.out).1, (C5.out _ BV.out).2, (C8.out _ BV.out).1, (C8.out _ BV.out).2.1, (C8.out _ BV.out).2.2⟩
            clear hK K
            (try simp only [Act.put])
            (try simp only [List.setIfInBounds_toArray])
            (try simp only [List.set_cons_succ])
            (try simp only [List.set_cons_zero])
            refine wpAnyH_ready (rs := [22]) (by kernel_rfl) (by simp) ?_
            refine AllReadyH.cons (o := { dst := none, op := Op.store 45 (Operand.tmp 14) (Operand.tmp 84), type := 0, pos := "law.go:278", after := #[{ on := 20, ground := Ground.data }, { on := 16, ground := Ground.data }, { on := 21, ground := Ground.chain }, { on := 0, ground := Ground.phase }, { on := 1, ground := Ground.phase }, { on := 2, ground := Ground.phase }, { on := 3, ground := Ground.phase }, { on := 4, ground := Ground.phase }, { on := 5, ground := Ground.phase }, { on := 6, ground := Ground.phase }, { on := 7, ground := Ground.phase }, { on := 8, ground := Ground.phase }, { on := 9, ground := Ground.phase }, { on := 10, ground := Ground.phase }, { on := 11, ground := Ground.phase }, { on := 12, ground := Ground.phase }, { on := 13, ground := Ground.phase }, { on := 14, ground := Ground.phase }, { on := 15, ground := Ground.phase }, { on := 16, ground := Ground.phase }, { on := 17, ground := Ground.textOnly Departure.lateStores }, { on := 18, ground := Ground.textOnly Departure.lateStores }, { on := 19, ground := Ground.phase }, { on := 20, ground := Ground.phase }, { on := 21, ground := Ground.phase }], guard := none }) rfl (fun K hK => ?_) AllReadyH.nil
            obtain ⟨⟨m0, m1, m2⟩, g0, g1, g2⟩ := X14.out.cells3
            go_simp
            clear m0 g0 m1 g1 m2 g2
            replace X13 := Lib.hid (X13.out.only (by omega) ((((Only.refl p14 v142).set 0 (.int .i64 n)).set 1 (.int .u32 0)).set 2 (.int .u32 0)))
            replace MM := Lib.hid (MM.out.only X14.out (by simp) ((((Only.refl p14 v142).set 0 (.int .i64 n)).set 1 (.int .u32 0)).set 2 (.int .u32 0)))
            replace BV := Lib.hid ((((BV.out).put p14 (by omega) 0 (.int .i64 n)).put p14 (by omega) 1 (.int .u32 0)).put p14 (by omega) 2 (.int .u32 0))
            replace X14 := Lib.hid ((((X14.out).set 0 (.int .i64 n)).set 1 (.int .u32 0)).set 2 (.int .u32 0))
            generalize (World.setCell (World.setCell (World.setCell v142 ⟨p14, 0, none⟩ (.int .i64 n)) ⟨p14, 1, none⟩ (.int .u32 0)) ⟨p14, 2, none⟩ (.int .u32 0)) = v143 at *
            refine hK.out _ _ ?_ (fun hHeld => ?_)
            · exact ⟨(C5.out _ BV.out).1, (C5.out _ BV.out).2, (C8.out _ BV.out).1, (C8.out _ BV.out).2.1, (C8.out _ BV.out).2.2⟩
            clear hK K
            (try simp only [Act.put])
            (try simp only [List.setIfInBounds_toArray])
            (try simp only [List.set_cons_succ])
            (try simp only [List.set_cons_zero])
            refine wpAnyH_ready (rs := [23]) (by kernel_rfl) (by simp) ?_
            refine AllReadyH.cons (o := { dst := some 15, op := Op.assign (Operand.tmp 85), type := 4, pos := "law.go:278", after := #[{ on := 17, ground := Ground.data }, { on := 22, ground := Ground.chain }, { on := 0, ground := Ground.phase }, { on := 1, ground := Ground.phase }, { on := 2, ground := Ground.phase }, { on := 3, ground := Ground.phase }, { on := 4, ground := Ground.phase }, { on := 5, ground := Ground.phase }, { on := 6, ground := Ground.phase }, { on := 7, ground := Ground.phase }, { on := 8, ground := Ground.phase }, { on := 9, ground := Ground.phase }, { on := 10, ground := Ground.phase }, { on := 11, ground := Ground.phase }, { on := 12, ground := Ground.phase }, { on := 13, ground := Ground.phase }, { on := 14, ground := Ground.phase }, { on := 15, ground := Ground.phase }, { on := 16, ground := Ground.phase }, { on := 17, ground := Ground.phase }, { on := 18, ground := Ground.textOnly Departure.lateStores }, { on := 19, ground := Ground.phase }, { on := 20, ground := Ground.phase }, { on := 21, ground := Ground.phase }, { on := 22, ground := Ground.phase }], guard := none }) rfl (fun K hK => ?_) AllReadyH.nil
            go_simp
            refine hK.out _ _ ?_ (fun hHeld => ?_)
            · exact ⟨(C5.out _ BV.out).1, (C5.out _ BV.out).2, (C8.out _ BV.out).1, (C8.out _ BV.out).2.1, (C8.out _ BV.out).2.2⟩
            clear hK K
            (try simp only [Act.put])
            (try simp only [List.setIfInBounds_toArray])
            (try simp only [List.set_cons_succ])
            (try simp only [List.set_cons_zero])
            refine wpAnyH_ready (rs := [24]) (by kernel_rfl) (by simp) ?_
            refine AllReadyH.cons (o := { dst := some 16, op := Op.assign (Operand.tmp 86), type := 32, pos := "law.go:278", after := #[{ on := 18, ground := Ground.data }, { on := 23, ground := Ground.chain }, { on := 0, ground := Ground.phase }, { on := 1, ground := Ground.phase }, { on := 2, ground := Ground.phase }, { on := 3, ground := Ground.phase }, { on := 4, ground := Ground.phase }, { on := 5, ground := Ground.phase }, { on := 6, ground := Ground.phase }, { on := 7, ground := Ground.phase }, { on := 8, ground := Ground.phase }, { on := 9, ground := Ground.phase }, { on := 10, ground := Ground.phase }, { on := 11, ground := Ground.phase }, { on := 12, ground := Ground.phase }, { on := 13, ground := Ground.phase }, { on := 14, ground := Ground.phase }, { on := 15, ground := Ground.phase }, { on := 16, ground := Ground.phase }, { on := 17, ground := Ground.phase }, { on := 18, ground := Ground.phase }, { on := 19, ground := Ground.phase }, { on := 20, ground := Ground.phase }, { on := 21, ground := Ground.phase }, { on := 22, ground := Ground.phase }, { on := 23, ground := Ground.phase }], guard := none }) rfl (fun K hK => ?_) AllReadyH.nil
            go_simp
            refine hK.out _ _ ?_ (fun hHeld => ?_)
            · exact ⟨(C5.out _ BV.out).1, (C5.out _ BV.out).2, (C8.out _ BV.out).1, (C8.out _ BV.out).2.1, (C8.out _ BV.out).2.2⟩
            clear hK K
            (try simp only [Act.put])
            (try simp only [List.setIfInBounds_toArray])
            (try simp only [List.set_cons_succ])
            (try simp only [List.set_cons_zero])
            refine wpAnyH_done (by kernel_rfl) ?_ _
            clear hHeld
            replace MM := Lib.hid (MM.out.imp (D' := (fun b => b ≠ b5 ∧ b ≠ b8 ∧ b ≠ b9)) (fun b hb => by (try simp only [ne_eq] at hb ⊢); omega))
            go_wp2_with fail
            go_meet
            case rel => exact ⟨_, _, _, rfl, rfl, rfl, X13.out, MM.out, BV.out⟩
          refine AllReadyH.cons (o := { dst := some 14, op := Op.alloc 45, type := 0, pos := "law.go:278", after := #[], guard := none }) rfl (fun K hK => ?_) AllReadyH.nil
          go_simp
          have hlt_p14 := BV.out.size
          have MM' := Lib.hid MM.out.addne
          clear MM
          have MM := MM'
          clear MM'
          replace MM := Lib.hid (MM.out.below (below_new V100 (.cells #[.int .i64 0, .int .u32 0, .int .u32 0] 45)))
          replace BV := Lib.hid (BV.out.trans ((below_new V100 (.cells #[.int .i64 0, .int .u32 0, .int .u32 0] 45)).mono BV.out.size))
          have X14 := Lib.hid (Box.new V100 #[.int .i64 0, .int .u32 0, .int .u32 0] 45 rfl)
          generalize World.alloc V100 (.cells #[.int .i64 0, .int .u32 0, .int .u32 0] 45) = v144 at *
          generalize World.heap V100 = hp_p14 at *
          generalize hp_p14.size = p14 at *
          refine hK.out _ _ ?_ (fun hHeld => ?_)
          · exact ⟨(C5.out _ BV.out).1, (C5.out _ BV.out).2, (C8.out _ BV.out).1, (C8.out _ BV.out).2.1, (C8.out _ BV.out).2.2⟩
          clear hK K
          (try simp only [Act.put])
          (try simp only [List.setIfInBounds_toArray])
          (try simp only [List.set_cons_succ])
          (try simp only [List.set_cons_zero])
          refine wpAnyH_ready (rs := [12, 19]) (by kernel_rfl) (by simp) ?_
          refine AllReadyH.cons (o := { dst := some 81, op := Op.call { callee := Callee.value (Operand.func 29), args := #[Operand.tmp 80], argTypes := #[2] }, type := 45, pos := "law.go:278", after := #[{ on := 11, ground := Ground.data }], guard := none }) rfl (fun K hK => ?_) ?_
          · skip
            go_simp
            go_at_call 29
            refine (word_any (s + 1) _).mono ?_
            rintro e v145 ⟨rfl, hb⟩
            replace MM := Lib.hid (MM.out.below (hb))
            replace X14 := Lib.hid (X14.out.below (hb))
            replace BV := Lib.hid (BV.out.trans ((hb).mono BV.out.size))
            clear hb
            go_simp
            refine hK.out _ _ ?_ (fun hHeld => ?_)
            · exact ⟨(C5.out _ BV.out).1, (C5.out _ BV.out).2, (C8.out _ BV.out).1, (C8.out _ BV.out).2.1, (C8.out _ BV.out).2.2⟩
            clear hK K
            (try simp only [Act.put])
            (try simp only [List.setIfInBounds_toArray])
            (try simp only [List.set_cons_succ])
            (try simp only [List.set_cons_zero])
            refine wpAnyH_ready (rs := [13, 19]) (by kernel_rfl) (by simp) ?_
            refine AllReadyH.cons (o := { dst := some 82, op := Op.call { callee := Callee.value (Operand.func 28), args := #[Operand.tmp 69, Operand.tmp 71, Operand.tmp 72, Operand.tmp 75, Operand.tmp 81], argTypes := #[31, 3, 42, 45, 45] }, type := 50, pos := "law.go:278", after := #[{ on := 0, ground := Ground.data }, { on := 2, ground := Ground.data }, { on := 3, ground := Ground.data }, { on := 6, ground := Ground.data }, { on := 12, ground := Ground.data }, { on := 12, ground := Ground.chain }], guard := none }) rfl (fun K hK => ?_) ?_
            · skip
              go_simp
              go_at_call 28
              have hl_b := BV.out.size
              have hl_X14 := X14.out.lt
              refine (SW.out _ _ MM.out).mono ?_
              rintro e v146 ⟨z1, z2, rfl, hmx, hb⟩
              replace MM := Lib.hid (hmx.imp (D' := (fun b => b ≠ b5 ∧ b ≠ b8 ∧ b ≠ b9 ∧ b ≠ p14)) (fun b hb => by rcases hb with hb | hb <;> (try simp only [ne_eq] at hb ⊢) <;> omega))
              clear hmx hl_b hl_X14
              replace X14 := Lib.hid (X14.out.below (hb))
              replace BV := Lib.hid (BV.out.trans ((hb).mono BV.out.size))
              clear hb
              go_simp
              refine hK.out _ _ ?_ (fun hHeld => ?_)
              · exact ⟨(C5.out _ BV.out).1, (C5.out _ BV.out).2, (C8.out _ BV.out).1, (C8.out _ BV.out).2.1, (C8.out _ BV.out).2.2⟩
              clear hK K
              (try simp only [Act.put])
              (try simp only [List.setIfInBounds_toArray])
              (try simp only [List.set_cons_succ])
              (try simp only [List.set_cons_zero])
              refine wpAnyH_take (i := 14) (oi := { dst := some 68, op := Op.move (Operand.tmp 82), type := 50, pos := "law.go:278", after := #[{ on := 13, ground := Ground.data }], guard := none }) (v := ?d147_53xv14) rfl (by kernel_rfl) (by kernel_rfl) (by kernel_rfl) (fun _ _ _ h => h) (Or.inl ⟨by rfl, ?d147_53xy14⟩) (by assumption) ?d147_53xr14
              case d147_53xy14 => (intro w hSw; (try dsimp only at hSw); go_simp; try with_reducible rfl)
              (try simp only [Act.put])
              (try simp only [List.setIfInBounds_toArray])
              (try simp only [List.set_cons_succ])
              (try simp only [List.set_cons_zero])
              refine wpAnyH_take (i := 15) (oi := { dst := some 83, op := Op.extract (Operand.tmp 68) 0, type := 31, pos := "law.go:278", after := #[{ on := 14, ground := Ground.data }], guard := none }) (v := ?d147_54xv15) rfl (by kernel_rfl) (by kernel_rfl) (by kernel_rfl) (fun _ _ _ h => h) (Or.inl ⟨by rfl, ?d147_54xy15⟩) (by assumption) ?d147_54xr15
              case d147_54xy15 => (intro w hSw; (try dsimp only at hSw); go_simp; try with_reducible rfl)
              (try simp only [Act.put])
              (try simp only [List.setIfInBounds_toArray])
              (try simp only [List.set_cons_succ])
              (try simp only [List.set_cons_zero])
              refine wpAnyH_take (i := 16) (oi := { dst := some 84, op := Op.extract (Operand.tmp 68) 1, type := 45, pos := "law.go:278", after := #[{ on := 14, ground := Ground.data }, { on := 21, ground := Ground.gcOnly Departure.lateStores }], guard := none }) (v := ?d147_55xv16) rfl (by kernel_rfl) (by kernel_rfl) (by kernel_rfl) (fun _ _ _ h => h) (Or.inl ⟨by rfl, ?d147_55xy16⟩) (by assumption) ?d147_55xr16
              case d147_55xy16 => (intro w hSw; (try dsimp only at hSw); go_simp; try with_reducible rfl)
              (try simp only [Act.put])
              (try simp only [List.setIfInBounds_toArray])
              (try simp only [List.set_cons_succ])
              (try simp only [List.set_cons_zero])
              refine wpAnyH_take (i := 17) (oi := { dst := some 85, op := Op.extract (Operand.tmp 68) 2, type := 4, pos := "law.go:278", after := #[{ on := 14, ground := Ground.data }, { on := 22, ground := Ground.gcOnly Departure.lateStores }], guard := none }) (v := ?d147_56xv17) rfl (by kernel_rfl) (by kernel_rfl) (by kernel_rfl) (fun _ _ _ h => h) (Or.inl ⟨by rfl, ?d147_56xy17⟩) (by assumption) ?d147_56xr17
              case d147_56xy17 => (intro w hSw; (try dsimp only at hSw); go_simp; try with_reducible rfl)
              (try simp only [Act.put])
              (try simp only [List.setIfInBounds_toArray])
              (try simp only [List.set_cons_succ])
              (try simp only [List.set_cons_zero])
              refine wpAnyH_take (i := 18) (oi := { dst := some 86, op := Op.extract (Operand.tmp 68) 3, type := 32, pos := "law.go:278", after := #[{ on := 14, ground := Ground.data }, { on := 23, ground := Ground.gcOnly Departure.lateStores }], guard := none }) (v := ?d147_57xv18) rfl (by kernel_rfl) (by kernel_rfl) (by kernel_rfl) (fun _ _ _ h => h) (Or.inl ⟨by rfl, ?d147_57xy18⟩) (by assumption) ?d147_57xr18
              case d147_57xy18 => (intro w hSw; (try dsimp only at hSw); go_simp; try with_reducible rfl)
              (try simp only [Act.put])
              (try simp only [List.setIfInBounds_toArray])
              (try simp only [List.set_cons_succ])
              (try simp only [List.set_cons_zero])
              refine wpAnyH_ready (rs := [19]) (by kernel_rfl) (by simp) ?_
              refine AllReadyH.cons (o := { dst := some 13, op := Op.alloc 31, type := 0, pos := "law.go:278", after := #[], guard := none }) rfl (fun K hK => ?_) AllReadyH.nil
              go_simp
              have hlt_p13 := BV.out.size
              have hlt_p13_X14 := X14.out.lt
              have MM' := Lib.hid MM.out.addne
              clear MM
              have MM := MM'
              clear MM'
              replace X14 := Lib.hid (X14.out.below (below_new v146 (.cells #[.slice none 0 0, .slice none 0 0] 31)))
              replace MM := Lib.hid (MM.out.below (below_new v146 (.cells #[.slice none 0 0, .slice none 0 0] 31)))
              replace BV := Lib.hid (BV.out.trans ((below_new v146 (.cells #[.slice none 0 0, .slice none 0 0] 31)).mono BV.out.size))
              have X13 := Lib.hid (Box.new v146 #[.slice none 0 0, .slice none 0 0] 31 rfl)
              generalize World.alloc v146 (.cells #[.slice none 0 0, .slice none 0 0] 31) = v147 at *
              generalize World.heap v146 = hp_p13 at *
              generalize hp_p13.size = p13 at *
              refine hK.out _ _ ?_ (fun hHeld => ?_)
              · exact ⟨(C5.out _ BV.out).1, (C5.out _ BV.out).2, (C8.out _ BV.out).1, (C8.out _ BV.out).2.1, (C8.out _ BV.out).2.2⟩
              clear hK K
              (try simp only [Act.put])
              (try simp only [List.setIfInBounds_toArray])
              (try simp only [List.set_cons_succ])
              (try simp only [List.set_cons_zero])
              refine wpAnyH_ready (rs := [21]) (by kernel_rfl) (by simp) ?_
              refine AllReadyH.cons (o := { dst := none, op := Op.store 31 (Operand.tmp 13) (Operand.tmp 83), type := 0, pos := "law.go:278", after := #[{ on := 19, ground := Ground.data }, { on := 15, ground := Ground.data }, { on := 13, ground := Ground.chain }, { on := 0, ground := Ground.phase }, { on := 1, ground := Ground.phase }, { on := 2, ground := Ground.phase }, { on := 3, ground := Ground.phase }, { on := 4, ground := Ground.phase }, { on := 5, ground := Ground.phase }, { on := 6, ground := Ground.phase }, { on := 7, ground := Ground.phase }, { on := 8, ground := Ground.phase }, { on := 9, ground := Ground.phase }, { on := 10, ground := Ground.phase }, { on := 11, ground := Ground.phase }, { on := 12, ground := Ground.phase }, { on := 13, ground := Ground.phase }, { on := 14, ground := Ground.phase }, { on := 15, ground := Ground.phase }, { on := 16, ground := Ground.textOnly Departure.lateStores }, { on := 17, ground := Ground.textOnly Departure.lateStores }, { on := 18, ground := Ground.textOnly Departure.lateStores }, { on := 19, ground := Ground.phase }, { on := 20, ground := Ground.phase }], guard := none }) rfl (fun K hK => ?_) AllReadyH.nil
              obtain ⟨⟨m0, m1⟩, g0, g1⟩ := X13.out.cells2
              go_simp
              clear m0 g0 m1 g1
              replace X14 := Lib.hid (X14.out.only (by omega) (((Only.refl p13 v147).set 0 (.slice z1 3 3)).set 1 (.slice z2 3 3)))
              replace MM := Lib.hid (MM.out.only X13.out (by simp) (((Only.refl p13 v147).set 0 (.slice z1 3 3)).set 1 (.slice z2 3 3)))
              replace BV := Lib.hid (((BV.out).put p13 (by omega) 0 (.slice z1 3 3)).put p13 (by omega) 1 (.slice z2 3 3))
              replace X13 := Lib.hid (((X13.out).set 0 (.slice z1 3 3)).set 1 (.slice z2 3 3))
              generalize (World.setCell (World.setCell v147 ⟨p13, 0, none⟩ (.slice z1 3 3)) ⟨p13, 1, none⟩ (.slice z2 3 3)) = v148 at *
              refine hK.out _ _ ?_ (fun hHeld => ?_)
              · exact ⟨(C5.out _ BV.out).1, (C5.out _ BV.out).2, (C8.out _ BV.out).1, (C8.out _ BV.out).2.1, (C8.out _ BV.out).2.2⟩
              clear hK K
              (try simp only [Act.put])
              (try simp only [List.setIfInBounds_toArray])
              (try simp only [List.set_cons_succ])
              (try simp only [List.set_cons_zero])
              refine wpAnyH_ready (rs := [22]) (by kernel_rfl) (by simp) ?_
              refine AllReadyH.cons (o := { dst := none, op := Op.store 45 (Operand.tmp 14) (Operand.tmp 84), type := 0, pos := "law.go:278", after := #[{ on := 20, ground := Ground.data }, { on := 16, ground := Ground.data }, { on := 21, ground := Ground.chain }, { on := 0, ground := Ground.phase }, { on := 1, ground := Ground.phase }, { on := 2, ground := Ground.phase }, { on := 3, ground := Ground.phase }, { on := 4, ground := Ground.phase }, { on := 5, ground := Ground.phase }, { on := 6, ground := Ground.phase }, { on := 7, ground := Ground.phase }, { on := 8, ground := Ground.phase }, { on := 9, ground := Ground.phase }, { on := 10, ground := Ground.phase }, { on := 11, ground := Ground.phase }, { on := 12, ground := Ground.phase }, { on := 13, ground := Ground.phase }, { on := 14, ground := Ground.phase }, { on := 15, ground := Ground.phase }, { on := 16, ground := Ground.phase }, { on := 17, ground := Ground.textOnly Departure.lateStores }, { on := 18, ground := Ground.textOnly Departure.lateStores }, { on := 19, ground := Ground.phase }, { on := 20, ground := Ground.phase }, { on := 21, ground := Ground.phase }], guard := none }) rfl (fun K hK => ?_) AllReadyH.nil
              obtain ⟨⟨m0, m1, m2⟩, g0, g1, g2⟩ := X14.out.cells3
              go_simp
              clear m0 g0 m1 g1 m2 g2
              replace MM := Lib.hid (MM.out.only X14.out (by simp) ((((Only.refl p14 v148).set 0 (.int .i64 n)).set 1 (.int .u32 0)).set 2 (.int .u32 0)))
              replace X13 := Lib.hid (X13.out.only (by omega) ((((Only.refl p14 v148).set 0 (.int .i64 n)).set 1 (.int .u32 0)).set 2 (.int .u32 0)))
              replace BV := Lib.hid ((((BV.out).put p14 (by omega) 0 (.int .i64 n)).put p14 (by omega) 1 (.int .u32 0)).put p14 (by omega) 2 (.int .u32 0))
              replace X14 := Lib.hid ((((X14.out).set 0 (.int .i64 n)).set 1 (.int .u32 0)).set 2 (.int .u32 0))
              generalize (World.setCell (World.setCell (World.setCell v148 ⟨p14, 0, none⟩ (.int .i64 n)) ⟨p14, 1, none⟩ (.int .u32 0)) ⟨p14, 2, none⟩ (.int .u32 0)) = v149 at *
              refine hK.out _ _ ?_ (fun hHeld => ?_)
              · exact ⟨(C5.out _ BV.out).1, (C5.out _ BV.out).2, (C8.out _ BV.out).1, (C8.out _ BV.out).2.1, (C8.out _ BV.out).2.2⟩
              clear hK K
              (try simp only [Act.put])
              (try simp only [List.setIfInBounds_toArray])
              (try simp only [List.set_cons_succ])
              (try simp only [List.set_cons_zero])
              refine wpAnyH_ready (rs := [23]) (by kernel_rfl) (by simp) ?_
              refine AllReadyH.cons (o := { dst := some 15, op := Op.assign (Operand.tmp 85), type := 4, pos := "law.go:278", after := #[{ on := 17, ground := Ground.data }, { on := 22, ground := Ground.chain }, { on := 0, ground := Ground.phase }, { on := 1, ground := Ground.phase }, { on := 2, ground := Ground.phase }, { on := 3, ground := Ground.phase }, { on := 4, ground := Ground.phase }, { on := 5, ground := Ground.phase }, { on := 6, ground := Ground.phase }, { on := 7, ground := Ground.phase }, { on := 8, ground := Ground.phase }, { on := 9, ground := Ground.phase }, { on := 10, ground := Ground.phase }, { on := 11, ground := Ground.phase }, { on := 12, ground := Ground.phase }, { on := 13, ground := Ground.phase }, { on := 14, ground := Ground.phase }, { on := 15, ground := Ground.phase }, { on := 16, ground := Ground.phase }, { on := 17, ground := Ground.phase }, { on := 18, ground := Ground.textOnly Departure.lateStores }, { on := 19, ground := Ground.phase }, { on := 20, ground := Ground.phase }, { on := 21, ground := Ground.phase }, { on := 22, ground := Ground.phase }], guard := none }) rfl (fun K hK => ?_) AllReadyH.nil
              go_simp
              refine hK.out _ _ ?_ (fun hHeld => ?_)
              · exact ⟨(C5.out _ BV.out).1, (C5.out _ BV.out).2, (C8.out _ BV.out).1, (C8.out _ BV.out).2.1, (C8.out _ BV.out).2.2⟩
              clear hK K
              (try simp only [Act.put])
              (try simp only [List.setIfInBounds_toArray])
              (try simp only [List.set_cons_succ])
              (try simp only [List.set_cons_zero])
              refine wpAnyH_ready (rs := [24]) (by kernel_rfl) (by simp) ?_
              refine AllReadyH.cons (o := { dst := some 16, op := Op.assign (Operand.tmp 86), type := 32, pos := "law.go:278", after := #[{ on := 18, ground := Ground.data }, { on := 23, ground := Ground.chain }, { on := 0, ground := Ground.phase }, { on := 1, ground := Ground.phase }, { on := 2, ground := Ground.phase }, { on := 3, ground := Ground.phase }, { on := 4, ground := Ground.phase }, { on := 5, ground := Ground.phase }, { on := 6, ground := Ground.phase }, { on := 7, ground := Ground.phase }, { on := 8, ground := Ground.phase }, { on := 9, ground := Ground.phase }, { on := 10, ground := Ground.phase }, { on := 11, ground := Ground.phase }, { on := 12, ground := Ground.phase }, { on := 13, ground := Ground.phase }, { on := 14, ground := Ground.phase }, { on := 15, ground := Ground.phase }, { on := 16, ground := Ground.phase }, { on := 17, ground := Ground.phase }, { on := 18, ground := Ground.phase }, { on := 19, ground := Ground.phase }, { on := 20, ground := Ground.phase }, { on := 21, ground := Ground.phase }, { on := 22, ground := Ground.phase }, { on := 23, ground := Ground.phase }], guard := none }) rfl (fun K hK => ?_) AllReadyH.nil
              go_simp
              refine hK.out _ _ ?_ (fun hHeld => ?_)
              · exact ⟨(C5.out _ BV.out).1, (C5.out _ BV.out).2, (C8.out _ BV.out).1, (C8.out _ BV.out).2.1, (C8.out _ BV.out).2.2⟩
              clear hK K
              (try simp only [Act.put])
              (try simp only [List.setIfInBounds_toArray])
              (try simp only [List.set_cons_succ])
              (try simp only [List.set_cons_zero])
              refine wpAnyH_done (by kernel_rfl) ?_ _
              clear hHeld
              replace MM := Lib.hid (MM.out.imp (D' := (fun b => b ≠ b5 ∧ b ≠ b8 ∧ b ≠ b9)) (fun b hb => by (try simp only [ne_eq] at hb ⊢); omega))
              go_wp2_with fail
              go_meet
              case rel => exact ⟨_, _, _, rfl, rfl, rfl, X13.out, MM.out, BV.out⟩
            refine AllReadyH.cons (o := { dst := some 13, op := Op.alloc 31, type := 0, pos := "law.go:278", after := #[], guard := none }) rfl (fun K hK => ?_) AllReadyH.nil
            go_simp
            have hlt_p13 := BV.out.size
            have hlt_p13_X14 := X14.out.lt
            have MM' := Lib.hid MM.out.addne
            clear MM
            have MM := MM'
            clear MM'
            replace MM := Lib.hid (MM.out.below (below_new v145 (.cells #[.slice none 0 0, .slice none 0 0] 31)))
            replace X14 := Lib.hid (X14.out.below (below_new v145 (.cells #[.slice none 0 0, .slice none 0 0] 31)))
            replace BV := Lib.hid (BV.out.trans ((below_new v145 (.cells #[.slice none 0 0, .slice none 0 0] 31)).mono BV.out.size))
            have X13 := Lib.hid (Box.new v145 #[.slice none 0 0, .slice none 0 0] 31 rfl)
            generalize World.alloc v145 (.cells #[.slice none 0 0, .slice none 0 0] 31) = v150 at *
            generalize World.heap v145 = hp_p13 at *
            generalize hp_p13.size = p13 at *
            refine hK.out _ _ ?_ (fun hHeld => ?_)
            · exact ⟨(C5.out _ BV.out).1, (C5.out _ BV.out).2, (C8.out _ BV.out).1, (C8.out _ BV.out).2.1, (C8.out _ BV.out).2.2⟩
            clear hK K
            (try simp only [Act.put])
            (try simp only [List.setIfInBounds_toArray])
            (try simp only [List.set_cons_succ])
            (try simp only [List.set_cons_zero])
            refine wpAnyH_ready (rs := [13]) (by kernel_rfl) (by simp) ?_
            refine AllReadyH.cons (o := { dst := some 82, op := Op.call { callee := Callee.value (Operand.func 28), args := #[Operand.tmp 69, Operand.tmp 71, Operand.tmp 72, Operand.tmp 75, Operand.tmp 81], argTypes := #[31, 3, 42, 45, 45] }, type := 50, pos := "law.go:278", after := #[{ on := 0, ground := Ground.data }, { on := 2, ground := Ground.data }, { on := 3, ground := Ground.data }, { on := 6, ground := Ground.data }, { on := 12, ground := Ground.data }, { on := 12, ground := Ground.chain }], guard := none }) rfl (fun K hK => ?_) AllReadyH.nil
            go_simp
            go_at_call 28
            have hl_b := BV.out.size
            have hl_X14 := X14.out.lt
            have hl_X13 := X13.out.lt
            refine (SW.out _ _ MM.out).mono ?_
            rintro e v151 ⟨z1, z2, rfl, hmx, hb⟩
            replace MM := Lib.hid (hmx.imp (D' := (fun b => b ≠ b5 ∧ b ≠ b8 ∧ b ≠ b9 ∧ b ≠ p13 ∧ b ≠ p14)) (fun b hb => by rcases hb with hb | hb <;> (try simp only [ne_eq] at hb ⊢) <;> omega))
            clear hmx hl_b hl_X14 hl_X13
            replace X14 := Lib.hid (X14.out.below (hb))
            replace X13 := Lib.hid (X13.out.below (hb))
            replace BV := Lib.hid (BV.out.trans ((hb).mono BV.out.size))
            clear hb
            go_simp
            refine hK.out _ _ ?_ (fun hHeld => ?_)
            · exact ⟨(C5.out _ BV.out).1, (C5.out _ BV.out).2, (C8.out _ BV.out).1, (C8.out _ BV.out).2.1, (C8.out _ BV.out).2.2⟩
            clear hK K
            (try simp only [Act.put])
            (try simp only [List.setIfInBounds_toArray])
            (try simp only [List.set_cons_succ])
            (try simp only [List.set_cons_zero])
            refine wpAnyH_take (i := 14) (oi := { dst := some 68, op := Op.move (Operand.tmp 82), type := 50, pos := "law.go:278", after := #[{ on := 13, ground := Ground.data }], guard := none }) (v := ?d152_58xv14) rfl (by kernel_rfl) (by kernel_rfl) (by kernel_rfl) (fun _ _ _ h => h) (Or.inl ⟨by rfl, ?d152_58xy14⟩) (by assumption) ?d152_58xr14
            case d152_58xy14 => (intro w hSw; (try dsimp only at hSw); go_simp; try with_reducible rfl)
            (try simp only [Act.put])
            (try simp only [List.setIfInBounds_toArray])
            (try simp only [List.set_cons_succ])
            (try simp only [List.set_cons_zero])
            refine wpAnyH_take (i := 15) (oi := { dst := some 83, op := Op.extract (Operand.tmp 68) 0, type := 31, pos := "law.go:278", after := #[{ on := 14, ground := Ground.data }], guard := none }) (v := ?d152_59xv15) rfl (by kernel_rfl) (by kernel_rfl) (by kernel_rfl) (fun _ _ _ h => h) (Or.inl ⟨by rfl, ?d152_59xy15⟩) (by assumption) ?d152_59xr15
            case d152_59xy15 => (intro w hSw; (try dsimp only at hSw); go_simp; try with_reducible rfl)
            (try simp only [Act.put])
            (try simp only [List.setIfInBounds_toArray])
            (try simp only [List.set_cons_succ])
            (try simp only [List.set_cons_zero])
            refine wpAnyH_take (i := 16) (oi := { dst := some 84, op := Op.extract (Operand.tmp 68) 1, type := 45, pos := "law.go:278", after := #[{ on := 14, ground := Ground.data }, { on := 21, ground := Ground.gcOnly Departure.lateStores }], guard := none }) (v := ?d152_60xv16) rfl (by kernel_rfl) (by kernel_rfl) (by kernel_rfl) (fun _ _ _ h => h) (Or.inl ⟨by rfl, ?d152_60xy16⟩) (by assumption) ?d152_60xr16
            case d152_60xy16 => (intro w hSw; (try dsimp only at hSw); go_simp; try with_reducible rfl)
            (try simp only [Act.put])
            (try simp only [List.setIfInBounds_toArray])
            (try simp only [List.set_cons_succ])
            (try simp only [List.set_cons_zero])
            refine wpAnyH_take (i := 17) (oi := { dst := some 85, op := Op.extract (Operand.tmp 68) 2, type := 4, pos := "law.go:278", after := #[{ on := 14, ground := Ground.data }, { on := 22, ground := Ground.gcOnly Departure.lateStores }], guard := none }) (v := ?d152_61xv17) rfl (by kernel_rfl) (by kernel_rfl) (by kernel_rfl) (fun _ _ _ h => h) (Or.inl ⟨by rfl, ?d152_61xy17⟩) (by assumption) ?d152_61xr17
            case d152_61xy17 => (intro w hSw; (try dsimp only at hSw); go_simp; try with_reducible rfl)
            (try simp only [Act.put])
            (try simp only [List.setIfInBounds_toArray])
            (try simp only [List.set_cons_succ])
            (try simp only [List.set_cons_zero])
            refine wpAnyH_take (i := 18) (oi := { dst := some 86, op := Op.extract (Operand.tmp 68) 3, type := 32, pos := "law.go:278", after := #[{ on := 14, ground := Ground.data }, { on := 23, ground := Ground.gcOnly Departure.lateStores }], guard := none }) (v := ?d152_62xv18) rfl (by kernel_rfl) (by kernel_rfl) (by kernel_rfl) (fun _ _ _ h => h) (Or.inl ⟨by rfl, ?d152_62xy18⟩) (by assumption) ?d152_62xr18
            case d152_62xy18 => (intro w hSw; (try dsimp only at hSw); go_simp; try with_reducible rfl)
            (try simp only [Act.put])
            (try simp only [List.setIfInBounds_toArray])
            (try simp only [List.set_cons_succ])
            (try simp only [List.set_cons_zero])
            refine wpAnyH_ready (rs := [21]) (by kernel_rfl) (by simp) ?_
            refine AllReadyH.cons (o := { dst := none, op := Op.store 31 (Operand.tmp 13) (Operand.tmp 83), type := 0, pos := "law.go:278", after := #[{ on := 19, ground := Ground.data }, { on := 15, ground := Ground.data }, { on := 13, ground := Ground.chain }, { on := 0, ground := Ground.phase }, { on := 1, ground := Ground.phase }, { on := 2, ground := Ground.phase }, { on := 3, ground := Ground.phase }, { on := 4, ground := Ground.phase }, { on := 5, ground := Ground.phase }, { on := 6, ground := Ground.phase }, { on := 7, ground := Ground.phase }, { on := 8, ground := Ground.phase }, { on := 9, ground := Ground.phase }, { on := 10, ground := Ground.phase }, { on := 11, ground := Ground.phase }, { on := 12, ground := Ground.phase }, { on := 13, ground := Ground.phase }, { on := 14, ground := Ground.phase }, { on := 15, ground := Ground.phase }, { on := 16, ground := Ground.textOnly Departure.lateStores }, { on := 17, ground := Ground.textOnly Departure.lateStores }, { on := 18, ground := Ground.textOnly Departure.lateStores }, { on := 19, ground := Ground.phase }, { on := 20, ground := Ground.phase }], guard := none }) rfl (fun K hK => ?_) AllReadyH.nil
            obtain ⟨⟨m0, m1⟩, g0, g1⟩ := X13.out.cells2
            go_simp
            clear m0 g0 m1 g1
            replace X14 := Lib.hid (X14.out.only (by omega) (((Only.refl p13 v151).set 0 (.slice z1 3 3)).set 1 (.slice z2 3 3)))
            replace MM := Lib.hid (MM.out.only X13.out (by simp) (((Only.refl p13 v151).set 0 (.slice z1 3 3)).set 1 (.slice z2 3 3)))
            replace BV := Lib.hid (((BV.out).put p13 (by omega) 0 (.slice z1 3 3)).put p13 (by omega) 1 (.slice z2 3 3))
            replace X13 := Lib.hid (((X13.out).set 0 (.slice z1 3 3)).set 1 (.slice z2 3 3))
            generalize (World.setCell (World.setCell v151 ⟨p13, 0, none⟩ (.slice z1 3 3)) ⟨p13, 1, none⟩ (.slice z2 3 3)) = v152 at *
            refine hK.out _ _ ?_ (fun hHeld => ?_)
            · exact ⟨(C5.out _ BV.out).1, (C5.out _ BV.out).2, (C8.out _ BV.out).1, (C8.out _ BV.out).2.1, (C8.out _ BV.out).2.2⟩
            clear hK K
            (try simp only [Act.put])
            (try simp only [List.setIfInBounds_toArray])
            (try simp only [List.set_cons_succ])
            (try simp only [List.set_cons_zero])
            refine wpAnyH_ready (rs := [22]) (by kernel_rfl) (by simp) ?_
            refine AllReadyH.cons (o := { dst := none, op := Op.store 45 (Operand.tmp 14) (Operand.tmp 84), type := 0, pos := "law.go:278", after := #[{ on := 20, ground := Ground.data }, { on := 16, ground := Ground.data }, { on := 21, ground := Ground.chain }, { on := 0, ground := Ground.phase }, { on := 1, ground := Ground.phase }, { on := 2, ground := Ground.phase }, { on := 3, ground := Ground.phase }, { on := 4, ground := Ground.phase }, { on := 5, ground := Ground.phase }, { on := 6, ground := Ground.phase }, { on := 7, ground := Ground.phase }, { on := 8, ground := Ground.phase }, { on := 9, ground := Ground.phase }, { on := 10, ground := Ground.phase }, { on := 11, ground := Ground.phase }, { on := 12, ground := Ground.phase }, { on := 13, ground := Ground.phase }, { on := 14, ground := Ground.phase }, { on := 15, ground := Ground.phase }, { on := 16, ground := Ground.phase }, { on := 17, ground := Ground.textOnly Departure.lateStores }, { on := 18, ground := Ground.textOnly Departure.lateStores }, { on := 19, ground := Ground.phase }, { on := 20, ground := Ground.phase }, { on := 21, ground := Ground.phase }], guard := none }) rfl (fun K hK => ?_) AllReadyH.nil
            obtain ⟨⟨m0, m1, m2⟩, g0, g1, g2⟩ := X14.out.cells3
            go_simp
            clear m0 g0 m1 g1 m2 g2
            replace X13 := Lib.hid (X13.out.only (by omega) ((((Only.refl p14 v152).set 0 (.int .i64 n)).set 1 (.int .u32 0)).set 2 (.int .u32 0)))
            replace MM := Lib.hid (MM.out.only X14.out (by simp) ((((Only.refl p14 v152).set 0 (.int .i64 n)).set 1 (.int .u32 0)).set 2 (.int .u32 0)))
            replace BV := Lib.hid ((((BV.out).put p14 (by omega) 0 (.int .i64 n)).put p14 (by omega) 1 (.int .u32 0)).put p14 (by omega) 2 (.int .u32 0))
            replace X14 := Lib.hid ((((X14.out).set 0 (.int .i64 n)).set 1 (.int .u32 0)).set 2 (.int .u32 0))
            generalize (World.setCell (World.setCell (World.setCell v152 ⟨p14, 0, none⟩ (.int .i64 n)) ⟨p14, 1, none⟩ (.int .u32 0)) ⟨p14, 2, none⟩ (.int .u32 0)) = v153 at *
            refine hK.out _ _ ?_ (fun hHeld => ?_)
            · exact ⟨(C5.out _ BV.out).1, (C5.out _ BV.out).2, (C8.out _ BV.out).1, (C8.out _ BV.out).2.1, (C8.out _ BV.out).2.2⟩
            clear hK K
            (try simp only [Act.put])
            (try simp only [List.setIfInBounds_toArray])
            (try simp only [List.set_cons_succ])
            (try simp only [List.set_cons_zero])
            refine wpAnyH_ready (rs := [23]) (by kernel_rfl) (by simp) ?_
            refine AllReadyH.cons (o := { dst := some 15, op := Op.assign (Operand.tmp 85), type := 4, pos := "law.go:278", after := #[{ on := 17, ground := Ground.data }, { on := 22, ground := Ground.chain }, { on := 0, ground := Ground.phase }, { on := 1, ground := Ground.phase }, { on := 2, ground := Ground.phase }, { on := 3, ground := Ground.phase }, { on := 4, ground := Ground.phase }, { on := 5, ground := Ground.phase }, { on := 6, ground := Ground.phase }, { on := 7, ground := Ground.phase }, { on := 8, ground := Ground.phase }, { on := 9, ground := Ground.phase }, { on := 10, ground := Ground.phase }, { on := 11, ground := Ground.phase }, { on := 12, ground := Ground.phase }, { on := 13, ground := Ground.phase }, { on := 14, ground := Ground.phase }, { on := 15, ground := Ground.phase }, { on := 16, ground := Ground.phase }, { on := 17, ground := Ground.phase }, { on := 18, ground := Ground.textOnly Departure.lateStores }, { on := 19, ground := Ground.phase }, { on := 20, ground := Ground.phase }, { on := 21, ground := Ground.phase }, { on := 22, ground := Ground.phase }], guard := none }) rfl (fun K hK => ?_) AllReadyH.nil
            go_simp
            refine hK.out _ _ ?_ (fun hHeld => ?_)
            · exact ⟨(C5.out _ BV.out).1, (C5.out _ BV.out).2, (C8.out _ BV.out).1, (C8.out _ BV.out).2.1, (C8.out _ BV.out).2.2⟩
            clear hK K
            (try simp only [Act.put])
            (try simp only [List.setIfInBounds_toArray])
            (try simp only [List.set_cons_succ])
            (try simp only [List.set_cons_zero])
            refine wpAnyH_ready (rs := [24]) (by kernel_rfl) (by simp) ?_
            refine AllReadyH.cons (o := { dst := some 16, op := Op.assign (Operand.tmp 86), type := 32, pos := "law.go:278", after := #[{ on := 18, ground := Ground.data }, { on := 23, ground := Ground.chain }, { on := 0, ground := Ground.phase }, { on := 1, ground := Ground.phase }, { on := 2, ground := Ground.phase }, { on := 3, ground := Ground.phase }, { on := 4, ground := Ground.phase }, { on := 5, ground := Ground.phase }, { on := 6, ground := Ground.phase }, { on := 7, ground := Ground.phase }, { on := 8, ground := Ground.phase }, { on := 9, ground := Ground.phase }, { on := 10, ground := Ground.phase }, { on := 11, ground := Ground.phase }, { on := 12, ground := Ground.phase }, { on := 13, ground := Ground.phase }, { on := 14, ground := Ground.phase }, { on := 15, ground := Ground.phase }, { on := 16, ground := Ground.phase }, { on := 17, ground := Ground.phase }, { on := 18, ground := Ground.phase }, { on := 19, ground := Ground.phase }, { on := 20, ground := Ground.phase }, { on := 21, ground := Ground.phase }, { on := 22, ground := Ground.phase }, { on := 23, ground := Ground.phase }], guard := none }) rfl (fun K hK => ?_) AllReadyH.nil
            go_simp
            refine hK.out _ _ ?_ (fun hHeld => ?_)
            · exact ⟨(C5.out _ BV.out).1, (C5.out _ BV.out).2, (C8.out _ BV.out).1, (C8.out _ BV.out).2.1, (C8.out _ BV.out).2.2⟩
            clear hK K
            (try simp only [Act.put])
            (try simp only [List.setIfInBounds_toArray])
            (try simp only [List.set_cons_succ])
            (try simp only [List.set_cons_zero])
            refine wpAnyH_done (by kernel_rfl) ?_ _
            clear hHeld
            replace MM := Lib.hid (MM.out.imp (D' := (fun b => b ≠ b5 ∧ b ≠ b8 ∧ b ≠ b9)) (fun b hb => by (try simp only [ne_eq] at hb ⊢); omega))
            go_wp2_with fail
            go_meet
            case rel => exact ⟨_, _, _, rfl, rfl, rfl, X13.out, MM.out, BV.out⟩
          refine AllReadyH.cons (o := { dst := some 13, op := Op.alloc 31, type := 0, pos := "law.go:278", after := #[], guard := none }) rfl (fun K hK => ?_) AllReadyH.nil
          go_simp
          have hlt_p13 := BV.out.size
          have hlt_p13_X14 := X14.out.lt
          have MM' := Lib.hid MM.out.addne
          clear MM
          have MM := MM'
          clear MM'
          replace MM := Lib.hid (MM.out.below (below_new v144 (.cells #[.slice none 0 0, .slice none 0 0] 31)))
          replace X14 := Lib.hid (X14.out.below (below_new v144 (.cells #[.slice none 0 0, .slice none 0 0] 31)))
          replace BV := Lib.hid (BV.out.trans ((below_new v144 (.cells #[.slice none 0 0, .slice none 0 0] 31)).mono BV.out.size))
          have X13 := Lib.hid (Box.new v144 #[.slice none 0 0, .slice none 0 0] 31 rfl)
          generalize World.alloc v144 (.cells #[.slice none 0 0, .slice none 0 0] 31) = v154 at *
          generalize World.heap v144 = hp_p13 at *
          generalize hp_p13.size = p13 at *
          refine hK.out _ _ ?_ (fun hHeld => ?_)
          · exact ⟨(C5.out _ BV.out).1, (C5.out _ BV.out).2, (C8.out _ BV.out).1, (C8.out _ BV.out).2.1, (C8.out _ BV.out).2.2⟩
          clear hK K
          (try simp only [Act.put])
          (try simp only [List.setIfInBounds_toArray])
          (try simp only [List.set_cons_succ])
          (try simp only [List.set_cons_zero])
          refine wpAnyH_ready (rs := [12]) (by kernel_rfl) (by simp) ?_
          refine AllReadyH.cons (o := { dst := some 81, op := Op.call { callee := Callee.value (Operand.func 29), args := #[Operand.tmp 80], argTypes := #[2] }, type := 45, pos := "law.go:278", after := #[{ on := 11, ground := Ground.data }], guard := none }) rfl (fun K hK => ?_) AllReadyH.nil
          go_simp
          go_at_call 29
          refine (word_any (s + 1) _).mono ?_
          rintro e v155 ⟨rfl, hb⟩
          replace MM := Lib.hid (MM.out.below (hb))
          replace X14 := Lib.hid (X14.out.below (hb))
          replace X13 := Lib.hid (X13.out.below (hb))
          replace BV := Lib.hid (BV.out.trans ((hb).mono BV.out.size))
          clear hb
          go_simp
          refine hK.out _ _ ?_ (fun hHeld => ?_)
          · exact ⟨(C5.out _ BV.out).1, (C5.out _ BV.out).2, (C8.out _ BV.out).1, (C8.out _ BV.out).2.1, (C8.out _ BV.out).2.2⟩
          clear hK K
          (try simp only [Act.put])
          (try simp only [List.setIfInBounds_toArray])
          (try simp only [List.set_cons_succ])
          (try simp only [List.set_cons_zero])
          refine wpAnyH_ready (rs := [13]) (by kernel_rfl) (by simp) ?_
          refine AllReadyH.cons (o := { dst := some 82, op := Op.call { callee := Callee.value (Operand.func 28), args := #[Operand.tmp 69, Operand.tmp 71, Operand.tmp 72, Operand.tmp 75, Operand.tmp 81], argTypes := #[31, 3, 42, 45, 45] }, type := 50, pos := "law.go:278", after := #[{ on := 0, ground := Ground.data }, { on := 2, ground := Ground.data }, { on := 3, ground := Ground.data }, { on := 6, ground := Ground.data }, { on := 12, ground := Ground.data }, { on := 12, ground := Ground.chain }], guard := none }) rfl (fun K hK => ?_) AllReadyH.nil
          go_simp
          go_at_call 28
          have hl_b := BV.out.size
          have hl_X14 := X14.out.lt
          have hl_X13 := X13.out.lt
          refine (SW.out _ _ MM.out).mono ?_
          rintro e v156 ⟨z1, z2, rfl, hmx, hb⟩
          replace MM := Lib.hid (hmx.imp (D' := (fun b => b ≠ b5 ∧ b ≠ b8 ∧ b ≠ b9 ∧ b ≠ p13 ∧ b ≠ p14)) (fun b hb => by rcases hb with hb | hb <;> (try simp only [ne_eq] at hb ⊢) <;> omega))
          clear hmx hl_b hl_X14 hl_X13
          replace X14 := Lib.hid (X14.out.below (hb))
          replace X13 := Lib.hid (X13.out.below (hb))
          replace BV := Lib.hid (BV.out.trans ((hb).mono BV.out.size))
          clear hb
          go_simp
          refine hK.out _ _ ?_ (fun hHeld => ?_)
          · exact ⟨(C5.out _ BV.out).1, (C5.out _ BV.out).2, (C8.out _ BV.out).1, (C8.out _ BV.out).2.1, (C8.out _ BV.out).2.2⟩
          clear hK K
          (try simp only [Act.put])
          (try simp only [List.setIfInBounds_toArray])
          (try simp only [List.set_cons_succ])
          (try simp only [List.set_cons_zero])
          refine wpAnyH_take (i := 14) (oi := { dst := some 68, op := Op.move (Operand.tmp 82), type := 50, pos := "law.go:278", after := #[{ on := 13, ground := Ground.data }], guard := none }) (v := ?d157_63xv14) rfl (by kernel_rfl) (by kernel_rfl) (by kernel_rfl) (fun _ _ _ h => h) (Or.inl ⟨by rfl, ?d157_63xy14⟩) (by assumption) ?d157_63xr14
          case d157_63xy14 => (intro w hSw; (try dsimp only at hSw); go_simp; try with_reducible rfl)
          (try simp only [Act.put])
          (try simp only [List.setIfInBounds_toArray])
          (try simp only [List.set_cons_succ])
          (try simp only [List.set_cons_zero])
          refine wpAnyH_take (i := 15) (oi := { dst := some 83, op := Op.extract (Operand.tmp 68) 0, type := 31, pos := "law.go:278", after := #[{ on := 14, ground := Ground.data }], guard := none }) (v := ?d157_64xv15) rfl (by kernel_rfl) (by kernel_rfl) (by kernel_rfl) (fun _ _ _ h => h) (Or.inl ⟨by rfl, ?d157_64xy15⟩) (by assumption) ?d157_64xr15
          case d157_64xy15 => (intro w hSw; (try dsimp only at hSw); go_simp; try with_reducible rfl)
          (try simp only [Act.put])
          (try simp only [List.setIfInBounds_toArray])
          (try simp only [List.set_cons_succ])
          (try simp only [List.set_cons_zero])
          refine wpAnyH_take (i := 16) (oi := { dst := some 84, op := Op.extract (Operand.tmp 68) 1, type := 45, pos := "law.go:278", after := #[{ on := 14, ground := Ground.data }, { on := 21, ground := Ground.gcOnly Departure.lateStores }], guard := none }) (v := ?d157_65xv16) rfl (by kernel_rfl) (by kernel_rfl) (by kernel_rfl) (fun _ _ _ h => h) (Or.inl ⟨by rfl, ?d157_65xy16⟩) (by assumption) ?d157_65xr16
          case d157_65xy16 => (intro w hSw; (try dsimp only at hSw); go_simp; try with_reducible rfl)
          (try simp only [Act.put])
          (try simp only [List.setIfInBounds_toArray])
          (try simp only [List.set_cons_succ])
          (try simp only [List.set_cons_zero])
          refine wpAnyH_take (i := 17) (oi := { dst := some 85, op := Op.extract (Operand.tmp 68) 2, type := 4, pos := "law.go:278", after := #[{ on := 14, ground := Ground.data }, { on := 22, ground := Ground.gcOnly Departure.lateStores }], guard := none }) (v := ?d157_66xv17) rfl (by kernel_rfl) (by kernel_rfl) (by kernel_rfl) (fun _ _ _ h => h) (Or.inl ⟨by rfl, ?d157_66xy17⟩) (by assumption) ?d157_66xr17
          case d157_66xy17 => (intro w hSw; (try dsimp only at hSw); go_simp; try with_reducible rfl)
          (try simp only [Act.put])
          (try simp only [List.setIfInBounds_toArray])
          (try simp only [List.set_cons_succ])
          (try simp only [List.set_cons_zero])
          refine wpAnyH_take (i := 18) (oi := { dst := some 86, op := Op.extract (Operand.tmp 68) 3, type := 32, pos := "law.go:278", after := #[{ on := 14, ground := Ground.data }, { on := 23, ground := Ground.gcOnly Departure.lateStores }], guard := none }) (v := ?d157_67xv18) rfl (by kernel_rfl) (by kernel_rfl) (by kernel_rfl) (fun _ _ _ h => h) (Or.inl ⟨by rfl, ?d157_67xy18⟩) (by assumption) ?d157_67xr18
          case d157_67xy18 => (intro w hSw; (try dsimp only at hSw); go_simp; try with_reducible rfl)
          (try simp only [Act.put])
          (try simp only [List.setIfInBounds_toArray])
          (try simp only [List.set_cons_succ])
          (try simp only [List.set_cons_zero])
          refine wpAnyH_ready (rs := [21]) (by kernel_rfl) (by simp) ?_
          refine AllReadyH.cons (o := { dst := none, op := Op.store 31 (Operand.tmp 13) (Operand.tmp 83), type := 0, pos := "law.go:278", after := #[{ on := 19, ground := Ground.data }, { on := 15, ground := Ground.data }, { on := 13, ground := Ground.chain }, { on := 0, ground := Ground.phase }, { on := 1, ground := Ground.phase }, { on := 2, ground := Ground.phase }, { on := 3, ground := Ground.phase }, { on := 4, ground := Ground.phase }, { on := 5, ground := Ground.phase }, { on := 6, ground := Ground.phase }, { on := 7, ground := Ground.phase }, { on := 8, ground := Ground.phase }, { on := 9, ground := Ground.phase }, { on := 10, ground := Ground.phase }, { on := 11, ground := Ground.phase }, { on := 12, ground := Ground.phase }, { on := 13, ground := Ground.phase }, { on := 14, ground := Ground.phase }, { on := 15, ground := Ground.phase }, { on := 16, ground := Ground.textOnly Departure.lateStores }, { on := 17, ground := Ground.textOnly Departure.lateStores }, { on := 18, ground := Ground.textOnly Departure.lateStores }, { on := 19, ground := Ground.phase }, { on := 20, ground := Ground.phase }], guard := none }) rfl (fun K hK => ?_) AllReadyH.nil
          obtain ⟨⟨m0, m1⟩, g0, g1⟩ := X13.out.cells2
          go_simp
          clear m0 g0 m1 g1
          replace X14 := Lib.hid (X14.out.only (by omega) (((Only.refl p13 v156).set 0 (.slice z1 3 3)).set 1 (.slice z2 3 3)))
          replace MM := Lib.hid (MM.out.only X13.out (by simp) (((Only.refl p13 v156).set 0 (.slice z1 3 3)).set 1 (.slice z2 3 3)))
          replace BV := Lib.hid (((BV.out).put p13 (by omega) 0 (.slice z1 3 3)).put p13 (by omega) 1 (.slice z2 3 3))
          replace X13 := Lib.hid (((X13.out).set 0 (.slice z1 3 3)).set 1 (.slice z2 3 3))
          generalize (World.setCell (World.setCell v156 ⟨p13, 0, none⟩ (.slice z1 3 3)) ⟨p13, 1, none⟩ (.slice z2 3 3)) = v157 at *
          refine hK.out _ _ ?_ (fun hHeld => ?_)
          · exact ⟨(C5.out _ BV.out).1, (C5.out _ BV.out).2, (C8.out _ BV.out).1, (C8.out _ BV.out).2.1, (C8.out _ BV.out).2.2⟩
          clear hK K
          (try simp only [Act.put])
          (try simp only [List.setIfInBounds_toArray])
          (try simp only [List.set_cons_succ])
          (try simp only [List.set_cons_zero])
          refine wpAnyH_ready (rs := [22]) (by kernel_rfl) (by simp) ?_
          refine AllReadyH.cons (o := { dst := none, op := Op.store 45 (Operand.tmp 14) (Operand.tmp 84), type := 0, pos := "law.go:278", after := #[{ on := 20, ground := Ground.data }, { on := 16, ground := Ground.data }, { on := 21, ground := Ground.chain }, { on := 0, ground := Ground.phase }, { on := 1, ground := Ground.phase }, { on := 2, ground := Ground.phase }, { on := 3, ground := Ground.phase }, { on := 4, ground := Ground.phase }, { on := 5, ground := Ground.phase }, { on := 6, ground := Ground.phase }, { on := 7, ground := Ground.phase }, { on := 8, ground := Ground.phase }, { on := 9, ground := Ground.phase }, { on := 10, ground := Ground.phase }, { on := 11, ground := Ground.phase }, { on := 12, ground := Ground.phase }, { on := 13, ground := Ground.phase }, { on := 14, ground := Ground.phase }, { on := 15, ground := Ground.phase }, { on := 16, ground := Ground.phase }, { on := 17, ground := Ground.textOnly Departure.lateStores }, { on := 18, ground := Ground.textOnly Departure.lateStores }, { on := 19, ground := Ground.phase }, { on := 20, ground := Ground.phase }, { on := 21, ground := Ground.phase }], guard := none }) rfl (fun K hK => ?_) AllReadyH.nil
          obtain ⟨⟨m0, m1, m2⟩, g0, g1, g2⟩ := X14.out.cells3
          go_simp
          clear m0 g0 m1 g1 m2 g2
          replace X13 := Lib.hid (X13.out.only (by omega) ((((Only.refl p14 v157).set 0 (.int .i64 n)).set 1 (.int .u32 0)).set 2 (.int .u32 0)))
          replace MM := Lib.hid (MM.out.only X14.out (by simp) ((((Only.refl p14 v157).set 0 (.int .i64 n)).set 1 (.int .u32 0)).set 2 (.int .u32 0)))
          replace BV := Lib.hid ((((BV.out).put p14 (by omega) 0 (.int .i64 n)).put p14 (by omega) 1 (.int .u32 0)).put p14 (by omega) 2 (.int .u32 0))
          replace X14 := Lib.hid ((((X14.out).set 0 (.int .i64 n)).set 1 (.int .u32 0)).set 2 (.int .u32 0))
          generalize (World.setCell (World.setCell (World.setCell v157 ⟨p14, 0, none⟩ (.int .i64 n)) ⟨p14, 1, none⟩ (.int .u32 0)) ⟨p14, 2, none⟩ (.int .u32 0)) = v158 at *
          refine hK.out _ _ ?_ (fun hHeld => ?_)
          · exact ⟨(C5.out _ BV.out).1, (C5.out _ BV.out).2, (C8.out _ BV.out).1, (C8.out _ BV.out).2.1, (C8.out _ BV.out).2.2⟩
          clear hK K
          (try simp only [Act.put])
          (try simp only [List.setIfInBounds_toArray])
          (try simp only [List.set_cons_succ])
          (try simp only [List.set_cons_zero])
          refine wpAnyH_ready (rs := [23]) (by kernel_rfl) (by simp) ?_
          refine AllReadyH.cons (o := { dst := some 15, op := Op.assign (Operand.tmp 85), type := 4, pos := "law.go:278", after := #[{ on := 17, ground := Ground.data }, { on := 22, ground := Ground.chain }, { on := 0, ground := Ground.phase }, { on := 1, ground := Ground.phase }, { on := 2, ground := Ground.phase }, { on := 3, ground := Ground.phase }, { on := 4, ground := Ground.phase }, { on := 5, ground := Ground.phase }, { on := 6, ground := Ground.phase }, { on := 7, ground := Ground.phase }, { on := 8, ground := Ground.phase }, { on := 9, ground := Ground.phase }, { on := 10, ground := Ground.phase }, { on := 11, ground := Ground.phase }, { on := 12, ground := Ground.phase }, { on := 13, ground := Ground.phase }, { on := 14, ground := Ground.phase }, { on := 15, ground := Ground.phase }, { on := 16, ground := Ground.phase }, { on := 17, ground := Ground.phase }, { on := 18, ground := Ground.textOnly Departure.lateStores }, { on := 19, ground := Ground.phase }, { on := 20, ground := Ground.phase }, { on := 21, ground := Ground.phase }, { on := 22, ground := Ground.phase }], guard := none }) rfl (fun K hK => ?_) AllReadyH.nil
          go_simp
          refine hK.out _ _ ?_ (fun hHeld => ?_)
          · exact ⟨(C5.out _ BV.out).1, (C5.out _ BV.out).2, (C8.out _ BV.out).1, (C8.out _ BV.out).2.1, (C8.out _ BV.out).2.2⟩
          clear hK K
          (try simp only [Act.put])
          (try simp only [List.setIfInBounds_toArray])
          (try simp only [List.set_cons_succ])
          (try simp only [List.set_cons_zero])
          refine wpAnyH_ready (rs := [24]) (by kernel_rfl) (by simp) ?_
          refine AllReadyH.cons (o := { dst := some 16, op := Op.assign (Operand.tmp 86), type := 32, pos := "law.go:278", after := #[{ on := 18, ground := Ground.data }, { on := 23, ground := Ground.chain }, { on := 0, ground := Ground.phase }, { on := 1, ground := Ground.phase }, { on := 2, ground := Ground.phase }, { on := 3, ground := Ground.phase }, { on := 4, ground := Ground.phase }, { on := 5, ground := Ground.phase }, { on := 6, ground := Ground.phase }, { on := 7, ground := Ground.phase }, { on := 8, ground := Ground.phase }, { on := 9, ground := Ground.phase }, { on := 10, ground := Ground.phase }, { on := 11, ground := Ground.phase }, { on := 12, ground := Ground.phase }, { on := 13, ground := Ground.phase }, { on := 14, ground := Ground.phase }, { on := 15, ground := Ground.phase }, { on := 16, ground := Ground.phase }, { on := 17, ground := Ground.phase }, { on := 18, ground := Ground.phase }, { on := 19, ground := Ground.phase }, { on := 20, ground := Ground.phase }, { on := 21, ground := Ground.phase }, { on := 22, ground := Ground.phase }, { on := 23, ground := Ground.phase }], guard := none }) rfl (fun K hK => ?_) AllReadyH.nil
          go_simp
          refine hK.out _ _ ?_ (fun hHeld => ?_)
          · exact ⟨(C5.out _ BV.out).1, (C5.out _ BV.out).2, (C8.out _ BV.out).1, (C8.out _ BV.out).2.1, (C8.out _ BV.out).2.2⟩
          clear hK K
          (try simp only [Act.put])
          (try simp only [List.setIfInBounds_toArray])
          (try simp only [List.set_cons_succ])
          (try simp only [List.set_cons_zero])
          refine wpAnyH_done (by kernel_rfl) ?_ _
          clear hHeld
          replace MM := Lib.hid (MM.out.imp (D' := (fun b => b ≠ b5 ∧ b ≠ b8 ∧ b ≠ b9)) (fun b hb => by (try simp only [ne_eq] at hb ⊢); omega))
          go_wp2_with fail
          go_meet
          case rel => exact ⟨_, _, _, rfl, rfl, rfl, X13.out, MM.out, BV.out⟩
        case rest =>
        obtain ⟨p13, z1, z2, rfl, rfl, rfl, y13, ym, yb⟩ := hcut
        have AS := Lib.hid (AtK.swapped (K := K') (X5.out.below yb) (X8.out.below yb) (X9.out.below yb) ym (BB.out.trans (yb.mono BB.out.size)) OO.out)
        have y5 := X5.out.below yb
        clear X5 X8 X9 MM BB BV C5 C8 SW hl5 hl8 hl9
        have X13 := Lib.hid y13
        clear y13 ym yb
        have c13 := X13.out.cell 0
        have c14 := X13.out.cell 1
        simp at c13 c14
        have c50 := y5.cell 0
        have c51 := y5.cell 1
        have f50 := y5.free 0
        have f51 := y5.free 1
        have l5 := y5.lt
        simp at c50 c51
        clear y5
        go_upto_region 20 with fail
        clear c13 c14 c50 c51 f50 f51 l5 X13
        generalize (wc.setCell ⟨b5, 0, none⟩ (.slice z1 3 3)).setCell ⟨b5, 1, none⟩ (.slice z2 3 3) = W2 at *
        obtain ⟨⟨c80, -, -⟩, -⟩ := AS.out.at8 ht3
        rw [HS.out] at c80
        have q2 : IntKind.i64.wrap (n + 1) = n + 1 := IntWalk.i64_in _ (by omega)
        cases dn with
        | true =>
          have e := QN.out
          rw [if_pos rfl] at e
          subst e
          have qs := QS.out
          go_wp2_with fail
          go_roundw
          case rel => exact ⟨k + 1, n + 1, z1, z2, _, S, K', by first | rfl | go_num, by go_num, by omega, ⟨by omega, by omega⟩, fun i hi => by have := SS.out i hi; omega, PN.out, AS.out⟩
          case measure => simp [intOf]; omega
        | false =>
          have e := QN.out
          rw [if_neg (by decide)] at e
          subst e
          have qs := QS.out
          go_wp2_with fail
          go_roundw
          case rel => exact ⟨k + 1, n', z1, z2, _, S, K', rfl, by go_num, by omega, ⟨by omega, by omega⟩, fun i hi => by have := SS.out i hi; omega, PN.out, AS.out⟩
          case measure => simp [intOf]; omega
    · obtain rfl : k = n1 := by omega
      have c50 := A.out.x5.cell 0
      have c51 := A.out.x5.cell 1
      simp at c50 c51
      go_wp2_with fail
      refine (last_ok _ _ M (1 + k) p wr A.out.mm.mw PKK.out.g (by omega) (by rw [PKK.out.h]; exact hp)).mono ?_
      rintro e w7 ⟨rfl, hb⟩
      rw [PKK.out.l]
      have BB := Lib.hid (A.out.g.trans (hb.mono A.out.g.size))
      clear hb A PKK SS c50 c51
      go_upto_region 25 with fail
      have X17 := Lib.hid (Box.new w7 #[.int .i64 n, .int .u32 0, .int .u32 0] 45 rfl)
      replace BB := Lib.hid (BB.out.trans ((below_new w7 (.cells #[.int .i64 n, .int .u32 0, .int .u32 0] 45)).mono BB.out.size))
      generalize w7.alloc (.cells #[.int .i64 n, .int .u32 0, .int .u32 0] 45) = W7 at *
      generalize w7.heap.size = p17 at *
      have qE : ∀ w, (binOp .eql 45 (.agg #[.int .i64 n, .int .u32 0, .int .u32 0]) (.agg #[.int .i64 n, .int .u32 0, .int .u32 0])).run Try.prog w = .ok (.bool true) w := fun w => by rw [eqlW]; simp
      replace X17 := Lib.hid (X17.out.below ((Below.refl _ _).drew))
      replace BB := Lib.hid (BB.out.trans (((Below.refl _ _).drew).mono BB.out.size))
      refine wp_region_held_drew (S := fun w' => w'.cell? ⟨p17, 0, none⟩ = some (.int .i64 n) ∧ w'.cell? ⟨p17, 1, none⟩ = some (.int .u32 0) ∧ w'.cell? ⟨p17, 2, none⟩ = some (.int .u32 0)) (by kernel_rfl) ⟨(X17.out.cell 0), (X17.out.cell 1), (X17.out.cell 2)⟩ (fun hHeld => ?_)
      generalize World.drew W7 = V900 at *
      refine wpAnyH_take (i := 0) (oi := { dst := some 109, op := Op.move (Operand.tmp 6), type := 32, pos := "law.go:288", after := #[], guard := none }) (v := ?d901_1xv0) rfl (by kernel_rfl) (by kernel_rfl) (by kernel_rfl) (fun _ _ _ h => h) (Or.inl ⟨by rfl, ?d901_1xy0⟩) (by assumption) ?d901_1xr0
      case d901_1xy0 => (intro w hSw; (try dsimp only at hSw); go_simp; try with_reducible rfl)
      (try simp only [Act.put])
      (try simp only [List.setIfInBounds_toArray])
      (try simp only [List.set_cons_succ])
      (try simp only [List.set_cons_zero])
      refine wpAnyH_take (i := 1) (oi := { dst := some 110, op := Op.binOp BinOp.eql 32 (Operand.tmp 109) (Operand.const (Value.int IntKind.i64 0)) 32, type := 4, pos := "law.go:288", after := #[{ on := 0, ground := Ground.data }], guard := none }) (v := ?d901_2xv1) rfl (by kernel_rfl) (by kernel_rfl) (by kernel_rfl) (fun _ _ _ h => h) (Or.inl ⟨by rfl, ?d901_2xy1⟩) (by assumption) ?d901_2xr1
      case d901_2xy1 => (intro w hSw; (try dsimp only at hSw); go_simp; try with_reducible rfl)
      (try simp only [Act.put])
      (try simp only [List.setIfInBounds_toArray])
      (try simp only [List.set_cons_succ])
      (try simp only [List.set_cons_zero])
      refine wpAnyH_take (i := 2) (oi := { dst := some 111, op := Op.move (Operand.tmp 110), type := 4, pos := "law.go:288", after := #[{ on := 1, ground := Ground.data }], guard := none }) (v := ?d901_3xv2) rfl (by kernel_rfl) (by kernel_rfl) (by kernel_rfl) (fun _ _ _ h => h) (Or.inl ⟨by rfl, ?d901_3xy2⟩) (by assumption) ?d901_3xr2
      case d901_3xy2 => (intro w hSw; (try dsimp only at hSw); go_simp; try with_reducible rfl)
      (try simp only [Act.put])
      (try simp only [List.setIfInBounds_toArray])
      (try simp only [List.set_cons_succ])
      (try simp only [List.set_cons_zero])
      refine wpAnyH_take (i := 3) (oi := { dst := some 112, op := Op.move (Operand.tmp 18), type := 4, pos := "law.go:288", after := #[{ on := 2, ground := Ground.guard }], guard := some (2, true) }) (v := ?d901_4xv3) rfl (by kernel_rfl) (by kernel_rfl) (by kernel_rfl) (fun _ _ _ h => h) (Or.inl ⟨by rfl, ?d901_4xy3⟩) (by assumption) ?d901_4xr3
      case d901_4xy3 => (intro w hSw; (try dsimp only at hSw); go_simp; try with_reducible rfl)
      (try simp only [Act.put])
      (try simp only [List.setIfInBounds_toArray])
      (try simp only [List.set_cons_succ])
      (try simp only [List.set_cons_zero])
      refine wpAnyH_take (i := 4) (oi := { dst := some 113, op := Op.pick (Operand.tmp 111) (Operand.tmp 112) (Operand.const (Value.bool false)), type := 4, pos := "law.go:288", after := #[{ on := 2, ground := Ground.data }, { on := 3, ground := Ground.data }], guard := none }) (v := ?d901_5xv4) rfl (by kernel_rfl) (by kernel_rfl) (by kernel_rfl) (fun _ _ _ h => h) (Or.inl ⟨by rfl, ?d901_5xy4⟩) (by assumption) ?d901_5xr4
      case d901_5xy4 => (intro w hSw; (try dsimp only at hSw); go_simp; try with_reducible rfl)
      (try simp only [Act.put])
      (try simp only [List.setIfInBounds_toArray])
      (try simp only [List.set_cons_succ])
      (try simp only [List.set_cons_zero])
      refine wpAnyH_take (i := 5) (oi := { dst := some 114, op := Op.move (Operand.tmp 113), type := 4, pos := "law.go:288", after := #[{ on := 4, ground := Ground.data }, { on := 2, ground := Ground.chain }], guard := none }) (v := ?d901_6xv5) rfl (by kernel_rfl) (by kernel_rfl) (by kernel_rfl) (fun _ _ _ h => h) (Or.inl ⟨by rfl, ?d901_6xy5⟩) (by assumption) ?d901_6xr5
      case d901_6xy5 => (intro w hSw; (try dsimp only at hSw); go_simp; try with_reducible rfl)
      (try simp only [Act.put])
      (try simp only [List.setIfInBounds_toArray])
      (try simp only [List.set_cons_succ])
      (try simp only [List.set_cons_zero])
      refine wpAnyH_take (i := 6) (oi := { dst := some 115, op := Op.load 45 (Operand.tmp 17), type := 45, pos := "law.go:288", after := #[{ on := 5, ground := Ground.guard }], guard := some (5, true) }) (v := ?d901_7xv6) rfl (by kernel_rfl) (by kernel_rfl) (by kernel_rfl) (fun _ _ _ h => h) (Or.inl ⟨by rfl, ?d901_7xy6⟩) (by assumption) ?d901_7xr6
      case d901_7xy6 => (intro w hSw; (try dsimp only at hSw); go_simp; try with_reducible rfl)
      (try simp only [Act.put])
      (try simp only [List.setIfInBounds_toArray])
      (try simp only [List.set_cons_succ])
      (try simp only [List.set_cons_zero])
      refine wpAnyH_take (i := 7) (oi := { dst := some 116, op := Op.move (Operand.tmp 10), type := 2, pos := "law.go:288", after := #[{ on := 5, ground := Ground.guard }], guard := some (5, true) }) (v := ?d901_8xv7) rfl (by kernel_rfl) (by kernel_rfl) (by kernel_rfl) (fun _ _ _ h => h) (Or.inl ⟨by rfl, ?d901_8xy7⟩) (by assumption) ?d901_8xr7
      case d901_8xy7 => (intro w hSw; (try dsimp only at hSw); go_simp; try with_reducible rfl)
      (try simp only [Act.put])
      (try simp only [List.setIfInBounds_toArray])
      (try simp only [List.set_cons_succ])
      (try simp only [List.set_cons_zero])
      refine wpAnyH_ready (rs := [8]) (by kernel_rfl) (by simp) ?_
      refine AllReadyH.cons (o := { dst := some 117, op := Op.call { callee := Callee.value (Operand.func 29), args := #[Operand.tmp 116], argTypes := #[2] }, type := 45, pos := "law.go:288", after := #[{ on := 7, ground := Ground.data }, { on := 5, ground := Ground.chain }, { on := 5, ground := Ground.guard }], guard := some (5, true) }) rfl (fun K hK => ?_) AllReadyH.nil
      go_simp
      go_at_call 29
      refine (word_any n _).mono ?_
      rintro e v901 ⟨rfl, hb⟩
      replace X17 := Lib.hid (X17.out.below (hb))
      replace BB := Lib.hid (BB.out.trans ((hb).mono BB.out.size))
      clear hb
      go_simp
      refine hK.out _ _ ?_ (fun hHeld => ?_)
      · exact ⟨(X17.out.cell 0), (X17.out.cell 1), (X17.out.cell 2)⟩
      clear hK K
      (try simp only [Act.put])
      (try simp only [List.setIfInBounds_toArray])
      (try simp only [List.set_cons_succ])
      (try simp only [List.set_cons_zero])
      refine wpAnyH_take (i := 9) (oi := { dst := some 118, op := Op.binOp BinOp.eql 45 (Operand.tmp 115) (Operand.tmp 117) 45, type := 4, pos := "law.go:288", after := #[{ on := 6, ground := Ground.data }, { on := 8, ground := Ground.data }, { on := 5, ground := Ground.guard }], guard := some (5, true) }) (v := ?d902_9xv9) rfl (by kernel_rfl) (by kernel_rfl) (by kernel_rfl) (fun _ _ _ h => h) (Or.inl ⟨by rfl, ?d902_9xy9⟩) (by assumption) ?d902_9xr9
      case d902_9xy9 => (intro w hSw; (try dsimp only at hSw); go_simp; try with_reducible rfl)
      (try simp only [Act.put])
      (try simp only [List.setIfInBounds_toArray])
      (try simp only [List.set_cons_succ])
      (try simp only [List.set_cons_zero])
      refine wpAnyH_take (i := 10) (oi := { dst := some 119, op := Op.pick (Operand.tmp 114) (Operand.tmp 118) (Operand.const (Value.bool false)), type := 4, pos := "law.go:288", after := #[{ on := 5, ground := Ground.data }, { on := 9, ground := Ground.data }], guard := none }) (v := ?d902_10xv10) rfl (by kernel_rfl) (by kernel_rfl) (by kernel_rfl) (fun _ _ _ h => h) (Or.inl ⟨by rfl, ?d902_10xy10⟩) (by assumption) ?d902_10xr10
      case d902_10xy10 => (intro w hSw; (try dsimp only at hSw); go_simp; try with_reducible rfl)
      (try simp only [Act.put])
      (try simp only [List.setIfInBounds_toArray])
      (try simp only [List.set_cons_succ])
      (try simp only [List.set_cons_zero])
      refine wpAnyH_ready (rs := [11]) (by kernel_rfl) (by simp) ?_
      refine AllReadyH.cons (o := { dst := some 4, op := Op.assign (Operand.tmp 119), type := 4, pos := "law.go:288", after := #[{ on := 10, ground := Ground.data }, { on := 8, ground := Ground.chain }, { on := 0, ground := Ground.phase }, { on := 1, ground := Ground.phase }, { on := 2, ground := Ground.phase }, { on := 3, ground := Ground.phase }, { on := 4, ground := Ground.phase }, { on := 5, ground := Ground.phase }, { on := 6, ground := Ground.phase }, { on := 7, ground := Ground.phase }, { on := 8, ground := Ground.phase }, { on := 9, ground := Ground.phase }, { on := 10, ground := Ground.phase }], guard := none }) rfl (fun K hK => ?_) AllReadyH.nil
      go_simp
      refine hK.out _ _ ?_ (fun hHeld => ?_)
      · exact ⟨(X17.out.cell 0), (X17.out.cell 1), (X17.out.cell 2)⟩
      clear hK K
      (try simp only [Act.put])
      (try simp only [List.setIfInBounds_toArray])
      (try simp only [List.set_cons_succ])
      (try simp only [List.set_cons_zero])
      refine wpAnyH_done (by kernel_rfl) ?_ _
      clear hHeld
      go_wp2_with fail
      go_ret
      exact ⟨rfl, BB.out⟩
theorem counts (v : Value) (l : List Int) (t : Nat) (w : World) (hv : U8s w v l) (ht : t < 256) : Calls Try.prog 7 #[v, .int .u8 t] w fun e w' => e = .returned (.bool true) ∧ Below w.heap.size w w' := by
  rcases Nat.lt_or_ge 80 l.length with h | h
  · exact counts_long v l t w hv h
  · exact counts_short v l t (t % 3) w hv h (Nat.mod_lt _ (by omega)) ht (by rw [Int.tmod_eq_emod_of_nonneg (by omega)]; simp)
end Go.Proofs.Ytbaljoehgdhhhaa
