/- made: the entries of a swap for six words, and the words behind it. -/
import Derived.Test.YtjphhfgomlchoaaDoorEnRow3
import Derived.Deep.DeepCutAuto
import Derived.Shelf.RegionOpenPlain
namespace Go.Proofs.YtjphhfgomlchoaaDoor
open Go.ChangeShapes Go.WideShapes Go.ChangeAt Go.RowKit Go.Maps
theorem Below.put' {n : Nat} {w W : World} (h : Below n w W) (b : Nat) (hb : n ≤ b) (i : Nat) (u : Value) : Below n w (W.setCell ⟨b, i, none⟩ u) := h.setCell (by simpa using hb) _
theorem Lat.put {a w : World} (h : Lat a w) (b : Nat) (hb : a.heap.size ≤ b) (i : Nat) (u : Value) : Lat a (w.setCell ⟨b, i, none⟩ u) := Below.put' h b hb i u
theorem Lat.le {a w : World} (h : Lat a w) : a.heap.size ≤ w.heap.size := Below.size h
theorem below_new (w : World) (o : Obj) : Below w.heap.size w (w.alloc o) := below1 w o
theorem _root_.Go.RowKit.Below.put {n : Nat} {w W : World} (h : Below n w W) (b : Nat) (hb : n ≤ b) (i : Nat) (u : Value) : Below n w (W.setCell ⟨b, i, none⟩ u) := h.setCell (by simpa using hb) _
structure Only (b : Nat) (w w' : World) : Prop where
  size : w'.heap.size = w.heap.size
  block : ∀ c, c ≠ b → w'.heap[c]? = w.heap[c]?
theorem Only.refl (b : Nat) (w : World) : Only b w w := ⟨rfl, fun _ _ => rfl⟩
theorem Only.set {b : Nat} {w w' : World} (h : Only b w w') (i : Nat) (u : Value) : Only b w (w'.setCell ⟨b, i, none⟩ u) :=
  ⟨by rw [← h.size]; simp [World.setCell], fun c hc => (Below.heap_setCell _ _ _ _ (by simpa using hc)).trans (h.block c hc)⟩
theorem Box.only {w w' : World} {b c : Nat} {cs : Array Value} {t : TypeId} (h : Box w c cs t) (hne : c ≠ b) (ho : Only b w w') : Box w' c cs t := (ho.block c hne).trans h
theorem Box.cells6 {w : World} {b : Nat} {x0 x1 x2 x3 x4 x5 : Value} {t : TypeId} (h : Box w b #[x0, x1, x2, x3, x4, x5] t) : (w.cell? ⟨b, 0, none⟩ = some x0 ∧ w.cell? ⟨b, 1, none⟩ = some x1 ∧ w.cell? ⟨b, 2, none⟩ = some x2 ∧ w.cell? ⟨b, 3, none⟩ = some x3 ∧ w.cell? ⟨b, 4, none⟩ = some x4 ∧ w.cell? ⟨b, 5, none⟩ = some x5) ∧ w.frozen? ⟨b, 0, none⟩ = false ∧ w.frozen? ⟨b, 1, none⟩ = false ∧ w.frozen? ⟨b, 2, none⟩ = false ∧ w.frozen? ⟨b, 3, none⟩ = false ∧ w.frozen? ⟨b, 4, none⟩ = false ∧ w.frozen? ⟨b, 5, none⟩ = false :=
  ⟨⟨h.cell 0, h.cell 1, h.cell 2, h.cell 3, h.cell 4, h.cell 5⟩, h.free 0, h.free 1, h.free 2, h.free 3, h.free 4, h.free 5⟩
theorem lk_take (L : List En) {j : Nat} (h : j < L.length) (x : Int) : (lk (L.take (j + 1)) x).isSome = ((lk (L.take j) x).isSome || decide ((L[j]!).1 = x)) := by
  rw [take_snoc L h, lk_one]
  cases lk (L.take j) x with
  | some e => rfl
  | none =>
    by_cases hc : (L[j]!).1 = x
    · rw [if_pos hc, decide_eq_true hc]; rfl
    · rw [if_neg hc, decide_eq_false hc]; rfl
set_option maxRecDepth 100000 in
set_option maxHeartbeats 12800000 in
theorem made_any (cs : Array Value) (W0 : List Wd) (v : Value) (P : List Pt) (w : World) (hc : Arr6 cs W0) (hv : PTS w v P) (hP : ∀ x ∈ P, OkPt x) (hk : P.length ≤ maxLen) : Calls Tryd.prog 21 #[.agg cs, v] w (MadeOut W0 P w) := by
  have HV := Lib.hid hv
  have HP := Lib.hid hP
  have HC := Lib.hid hc
  have CS := Lib.hid hc.size
  have C1 := Lib.hid hc.one
  have ZS := Lib.hid zA_arr.size
  have L6 := Lib.hid hc.2
  obtain ⟨pa1, pcp, rfl, hpcap⟩ := hv.form
  obtain ⟨kp, hkp⟩ : ∃ n, P.length = n := ⟨_, rfl⟩
  rw [hkp] at HV hpcap hk ⊢
  have HK := Lib.hid hkp
  have HKM := Lib.hid (show kp ≤ 9223372036854775807 from hk)
  clear hv hP hkp hpcap hc hk
  have zv := zeroA
  go_enter Tryd.func21, Tryd.ntmps21
  go_upto_region 1 with fail
  have B1 := Lib.hid (below1 w (.cells cs 40))
  have B2 := Lib.hid (below1 (w.alloc (.cells cs 40)) (.cells zA 40))
  have BB := Lib.hid (B1.out.trans (B2.out.mono B1.out.size))
  have X2 := Lib.hid ((Box.new w cs 40 rfl).below B2.out)
  have X5 := Lib.hid (Box.new (w.alloc (.cells cs 40)) zA 40 (n := w.heap.size + 1) (by simp))
  obtain ⟨W, hW⟩ : ∃ W, ((w.alloc (.cells cs 40)).alloc (.cells zA 40)) = W := ⟨_, rfl⟩
  obtain ⟨q, hq⟩ : ∃ q, w.heap.size = q := ⟨_, rfl⟩
  have HQ := Lib.hid hq
  rw [hW] at BB X2 X5
  rw [hq] at X2 X5
  rw [hW, hq]
  clear hW hq B1 B2
  go_upto_region 3 with (first
    | ((with_reducible refine wpList_loadA q cs 40 ?_ ?_ ?_ ?_); rfl; exact X2.out; exact CS.out)
    | ((with_reducible refine wpList_storeA W.heap.size cs zA 40 ?_ ?_ ?_ ?_ ?_ ?_ ?_); rfl; rfl; exact Box.new W zA 40 rfl; exact ZS.out; exact CS.out; exact C1.out)
    | fail)
  clear zv
  obtain ⟨q7, hq7⟩ : ∃ x, W.heap.size = x := ⟨_, rfl⟩
  obtain ⟨W1, hW1⟩ : ∃ X, (W.alloc (.cells zA 40)).setRow q7 cs = X := ⟨_, rfl⟩
  have X7 : Hid (Box W1 q7 cs 40) := Lib.hid (by rw [← hW1]; exact Box.rowSame (Box.new W zA 40 hq7.symm))
  have lt2 := X2.out.lt
  have lt5 := X5.out.lt
  replace X2 : Hid (Box W1 q cs 40) := Lib.hid (by rw [← hW1]; exact (X2.out.alloc _).row (by omega))
  replace X5 : Hid (Box W1 (q + 1) zA 40) := Lib.hid (by rw [← hW1]; exact (X5.out.alloc _).row (by omega))
  have N75 := Lib.hid (show q + 1 ≠ q7 by omega)
  have N72 := Lib.hid (show q ≠ q7 by omega)
  have Q7 := Lib.hid (show w.heap.size ≤ q7 by rw [← hq7]; exact BB.out.size)
  replace BB : Hid (Below w.heap.size w W1) := Lib.hid (by rw [← hW1]; exact below_row (BB.out.alloc BB.out.size _) Q7.out _)
  rw [hq7, hW1]
  clear hW1 hq7 lt2 lt5
  have R2 := Lib.hid (RowK.ofBox (E := wdE) (B := w.heap.size) (L := W0) (n := 6) X2.out (by have := HQ.out; omega) L6.out.symm (by rw [HC.out.1]) (by rw [L6.out]; decide))
  have R7 := Lib.hid (RowK.ofBox (E := wdE) (B := w.heap.size) (L := W0) (n := 6) X7.out Q7.out L6.out.symm (by rw [HC.out.1]) (by rw [L6.out]; decide))
  have RO := Lib.hid (RowK.nil (E := enE) 48 w.heap.size W1)
  clear X2 X7 Q7
  have S0 := Lib.hid (show madeL W0 (P.take 0) = ([], W0) from rfl)
  have SS := Lib.hid (fun j (h : j < kp) => show madeL W0 (P.take (j + 1)) = madeS W0 (madeL W0 (P.take j)) P[j]! by rw [take_snoc P (by rw [HK.out]; exact h), madeL_snoc])
  have SM := Lib.hid (fun j => made_ok L6.out (P.take j) (fun x hx => (HP.out x (List.mem_of_mem_take hx)).1.1))
  have SE := Lib.hid (show madeL W0 (P.take kp) = madeL W0 P by rw [List.take_of_length_le (by rw [HK.out]; exact Nat.le_refl _)])
  obtain ⟨S, hS⟩ : ∃ S : Nat → List En × List Wd, (fun j => madeL W0 (P.take j)) = S := ⟨_, rfl⟩
  have hS' : ∀ j, madeL W0 (P.take j) = S j := fun j => by rw [← hS]
  simp only [hS'] at S0 SS SM SE
  clear hS hS'
  go_wp2_with fail
  go_loopw [6, 18] (fun ov iv wr => ∃ k : Nat, k ≤ kp ∧ iv = .int .i64 k ∧ RowK enE 48 w.heap.size wr ov (S k).1 ∧ RowK wdE 40 w.heap.size wr (.slice (some ⟨q7, 0, none⟩) 6 6) (S k).2 ∧ RowK wdE 40 w.heap.size wr (.slice (some ⟨q, 0, none⟩) 6 6) W0 ∧ Box wr (q + 1) zA 40 ∧ Below w.heap.size w wr) (fun _ iv _ => kp - (intOf iv).toNat)
  case atStart => exact ⟨0, by omega, rfl, by rw [S0.out]; exact RO.out, by rw [S0.out]; exact R7.out, R2.out, X5.out, BB.out⟩
  case round =>
    obtain ⟨k, hk2, rfl, h1, h2, h3, h4, h5⟩ := hrel
    clear RO R7 R2 X5 BB S0
    have RO := Lib.hid h1
    have R7 := Lib.hid h2
    have R2 := Lib.hid h3
    have X5 := Lib.hid h4
    have BB := Lib.hid h5
    clear h1 h2 h3 h4 h5
    obtain ⟨hm, h6, hA⟩ := SM.out k
    have SL := Lib.hid (mk_len hm)
    have S6 := Lib.hid h6
    clear hm h6 hA
    obtain ⟨oa, oc, rfl, _⟩ := RO.out.form
    by_cases hlt : k < kp
    · have HS := Lib.hid (SS.out k hlt)
      have qk : IntKind.i64.wrap ((k : Int) + 1) = (k : Int) + 1 := IntWalk.i64_in _ (by have := HKM.out; omega)
      obtain ⟨pb, poff, rfl, hpb, hpl, hc⟩ := HV.out.addr hlt
      obtain ⟨c0, c1, c2⟩ := pe_cells hc (by rw [hpl]; exact hlt)
      rw [← BB.out.cell (p := ⟨pb, _, none⟩) hpb] at c0 c1 c2
      have OP := Lib.hid (HP.out _ (mem_at (L := P) (k := k) (by rw [HK.out]; exact hlt)))
      clear hc hpl hpb
      obtain ⟨z, hz⟩ : ∃ z, P[k]! = z := ⟨_, rfl⟩
      rw [hz] at c0 c1 c2 OP HS
      clear hz
      obtain ⟨o, p1, p2⟩ := z
      obtain ⟨⟨ho1, ho2⟩, -⟩ := OP.out
      simp only at c0 c1 c2 ho1 ho2
      obtain ⟨o, rfl⟩ : ∃ y : Nat, o = y := ⟨o.toNat, by omega⟩
      unfold madeS at HS
      simp only at HS
      have mo := Lib.hid (show (o : Int) % 6 = ((o % 6 : Nat) : Int) by simp)
      rw [mo.out] at HS
      have M1 := Lib.hid (show (o : Int).tmod 6 = ((o % 6 : Nat) : Int) by rw [Int.tmod_eq_emod_of_nonneg (by omega)]; simp)
      have a6 : o % 6 < 6 := Nat.mod_lt _ (by omega)
      obtain ⟨a, ha⟩ : ∃ y, o % 6 = y := ⟨_, rfl⟩
      rw [ha] at HS M1 a6 mo
      rw [Int.toNat_natCast] at HS
      clear ha ho1 ho2
      go_upto_region 6 with fail
      clear c0 c1 c2
      have X9 := Lib.hid (Box.new wr #[.int .u8 (o : Nat), .int .i64 p1, .bool p2] 69 rfl)
      have B1 := Lib.hid (below1 wr (.cells #[.int .u8 (o : Nat), .int .i64 p1, .bool p2] 69))
      replace R2 := Lib.hid (R2.out.below B1.out)
      replace R7 := Lib.hid (R7.out.below B1.out)
      replace RO := Lib.hid (RO.out.below B1.out)
      replace X5 := Lib.hid (X5.out.below B1.out)
      replace BB := Lib.hid (BB.out.trans (B1.out.mono BB.out.size))
      clear B1
      generalize wr.alloc (.cells #[.int .u8 (o : Nat), .int .i64 p1, .bool p2] 69) = W3 at *
      generalize wr.heap.size = p9 at *
      have v0 := X9.out.cell 0
      have v1 := X9.out.cell 1
      have v2 := X9.out.cell 2
      simp at v0 v1 v2
      have m1 := M1.out
      have m2 := mo.out
      have m3 : IntKind.i64.wrap (o : Int) = (o : Int) := IntWalk.i64_in _ (by have := OP.out.1.2; simp only at this; omega)
      have m4 : (0 : Int) ≤ (o : Int) := by omega
      go_upto_region 8 with fail
      clear v0 v1 v2 m1 m2 m3 m4 M1 mo
      obtain ⟨on, hon⟩ : ∃ n, (S k).1.length = n := ⟨_, rfl⟩
      rw [hon] at SL RO ⊢
      have HON := Lib.hid hon
      have hn6 := SL.out
      clear hon
      have BL := Lib.hid (Below.refl W3.heap.size W3)
      have KO := Lib.hid (fun W' (h : Below W3.heap.size W3 W') => RO.out.below h)
      have I0 := Lib.hid (show (lk ((S k).1.take 0) (a : Int)).isSome = false from rfl)
      have I1 := Lib.hid (fun j (h : j < on) => lk_take (S k).1 (j := j) (by rw [HON.out]; exact h) (a : Int))
      have IE := Lib.hid (show (lk ((S k).1.take on) (a : Int)).isSome = (lk (S k).1 (a : Int)).isSome by rw [List.take_of_length_le (by rw [HON.out]; exact Nat.le_refl _)])
      obtain ⟨I, hI⟩ : ∃ I : Nat → Bool, (fun j => (lk ((S k).1.take j) (a : Int)).isSome) = I := ⟨_, rfl⟩
      have hI' : ∀ j, (lk ((S k).1.take j) (a : Int)).isSome = I j := fun j => by rw [← hI]
      simp only [hI'] at I0 I1 IE
      clear hI hI'
      go_wp2_with fail
      go_loopw [11, 28] (fun sv iv wz => ∃ j : Nat, j ≤ on ∧ iv = .int .i64 j ∧ sv = .bool (I j) ∧ Lat W3 wz) (fun _ iv _ => on - (intOf iv).toNat)
      case atStart => exact ⟨0, by omega, rfl, by rw [I0.out], BL.out⟩
      case round =>
        obtain ⟨j, hj, rfl, rfl, hb⟩ := hrel
        replace BL := Lib.hid hb.out
        clear hb
        by_cases hlt2 : j < on
        · have IJ := Lib.hid (I1.out j hlt2)
          obtain ⟨b2, off2, e2, hb2, hl2, hc2⟩ := (KO.out _ BL.out).sk.addr hlt2
          obtain ⟨d0, d1, d2, d3, d4, d5⟩ := en_cells hc2 (by rw [hl2]; exact hlt2)
          clear hc2 hl2 hb2
          subst e2
          obtain ⟨z, hz⟩ : ∃ z, (S k).1[j]! = z := ⟨_, rfl⟩
          rw [hz] at d0 d1 d2 d3 d4 d5 IJ
          clear hz
          obtain ⟨e0, ⟨e1, e2, e3⟩, e4, e5⟩ := z
          simp only at d0 d1 d2 d3 d4 d5 IJ
          go_upto_region 11 with fail
          clear d0 d1 d2 d3 d4 d5
          have X13 := Lib.hid (Box.new wr #[.int .i64 e0, .int .i64 e1, .int .u32 e2, .int .u32 e3, .int .i64 e4, .bool e5] 48 rfl)
          have B1 := Lib.hid (below1 wr (.cells #[.int .i64 e0, .int .i64 e1, .int .u32 e2, .int .u32 e3, .int .i64 e4, .bool e5] 48))
          replace BL := Lib.hid (BL.out.trans (B1.out.mono BL.out.size))
          clear B1
          generalize wr.alloc (.cells #[.int .i64 e0, .int .i64 e1, .int .u32 e2, .int .u32 e3, .int .i64 e4, .bool e5] 48) = W4 at *
          generalize wr.heap.size = p13 at *
          have v0 := X13.out.cell 0
          simp at v0
          obtain ⟨ij, hij⟩ : ∃ b, I j = b := ⟨_, rfl⟩
          rw [hij] at IJ ⊢
          clear hij
          cases ij with
          | true =>
            go_wp2_with fail
            go_roundw
            case rel => exact ⟨j + 1, by omega, by go_num, by rw [IJ.out]; rfl, BL.out⟩
            case measure => simp [intOf]; omega
          | false =>
            by_cases he : e0 = (a : Int)
            · have he' : (e0 == (a : Int)) = true := by rw [beq_iff_eq]; exact he
              have HE := Lib.hid he
              clear he
              go_wp2_with fail
              go_roundw
              case rel => exact ⟨j + 1, by omega, by go_num, by rw [IJ.out, decide_eq_true HE.out]; rfl, BL.out⟩
              case measure => simp [intOf]; omega
            · have he' : (e0 == (a : Int)) = false := by rw [beq_eq_false_iff_ne]; exact he
              have HE := Lib.hid he
              clear he
              go_wp2_with fail
              go_roundw
              case rel => exact ⟨j + 1, by omega, by go_num, by rw [IJ.out, decide_eq_false HE.out]; rfl, BL.out⟩
              case measure => simp [intOf]; omega
        obtain rfl : j = on := by omega
        obtain ⟨w9, hw9⟩ : ∃ W9, W9 = wr := ⟨_, rfl⟩
        subst hw9
        rw [IE.out]
        clear I0 I1 IE KO
        replace R2 := Lib.hid (R2.out.below BL.out)
        replace R7 := Lib.hid (R7.out.below BL.out)
        replace RO := Lib.hid (RO.out.below BL.out)
        replace X5 := Lib.hid (X5.out.below BL.out)
        replace X9 := Lib.hid (X9.out.below BL.out)
        replace BB := Lib.hid (BB.out.trans (BL.out.mono BB.out.size))
        clear BL
        cases hlk : lk (S k).1 (a : Int) with
        | some e =>
          rw [hlk, if_pos (show (some e).isSome = true from rfl)] at HS
          clear hlk
          go_wp2_with fail
          go_roundw
          case rel => exact ⟨k + 1, by omega, by go_num, by rw [HS.out]; exact RO.out, by rw [HS.out]; exact R7.out, R2.out, X5.out, BB.out⟩
          case measure => simp [intOf]; omega
        | none =>
        rw [hlk, if_neg (show ¬ (none : Option En).isSome = true by decide)] at HS
        clear hlk
        obtain ⟨cw, hcw⟩ : ∃ x, W0[a]! = x := ⟨_, rfl⟩
        have HCW := Lib.hid hcw
        rw [hcw] at HS
        clear hcw
        obtain ⟨c0, c1, c2⟩ := cw
        simp only at HS
        have K2 := Lib.hid (fun W' (h : Lat w9 W') => (show w9.heap.size ≤ w9.heap.size ∧ W'.cell? ⟨q, a * 3, none⟩ = some (.int .i64 c0) ∧ W'.cell? ⟨q, a * 3 + 1, none⟩ = some (.int .u32 c1) ∧ W'.cell? ⟨q, a * 3 + 2, none⟩ = some (.int .u32 c2) from ⟨Nat.le_refl _, by
          have h3 := ((R2.out.below h.out).at3 (i := a) (by rw [L6.out]; exact a6)).1
          rw [HCW.out] at h3
          exact h3⟩))
        have BV := Lib.hid (show Lat w9 w9 from Below.refl _ _)
        have BB0 := BB
        have m5 : (a : Int) < 6 := by omega
        have m6 : ¬ 6 ≤ a := by omega
        go_upto_region 14 with fail
        replace BV := Lib.hid (BV.out.below ((Below.refl _ _).drew))
        replace BB := Lib.hid (BB.out.trans (((Below.refl _ _).drew).mono BB.out.size))
        refine wp_region_held_drew (S := fun w' => w'.cell? ⟨q, a * 3, none⟩ = some (.int .i64 c0) ∧ w'.cell? ⟨q, a * 3 + 1, none⟩ = some (.int .u32 c1) ∧ w'.cell? ⟨q, a * 3 + 2, none⟩ = some (.int .u32 c2)) (by kernel_rfl) ⟨(K2.out _ BV.out).2.1, (K2.out _ BV.out).2.2.1, (K2.out _ BV.out).2.2.2⟩ (fun hHeld => ?_)
        generalize World.drew w9 = V100 at *
        refine wpAnyH_take (i := 0) (oi := { dst := some 41, op := Op.move (Operand.tmp 10), type := 3, pos := "law.go:94", after := #[], guard := none }) (v := ?d101_1xv0) rfl (by kernel_rfl) (by kernel_rfl) (by kernel_rfl) (fun _ _ _ h => h) (Or.inl ⟨by rfl, ?d101_1xy0⟩) (by assumption) ?d101_1xr0
        case d101_1xy0 => (intro w hSw; (try dsimp only at hSw); go_simp; try with_reducible rfl)
        (try simp only [Act.put])
        (try simp only [List.setIfInBounds_toArray])
        (try simp only [List.set_cons_succ])
        (try simp only [List.set_cons_zero])
        refine wpAnyH_take (i := 1) (oi := { dst := some 42, op := Op.move (Operand.tmp 10), type := 3, pos := "law.go:94", after := #[], guard := none }) (v := ?d101_2xv1) rfl (by kernel_rfl) (by kernel_rfl) (by kernel_rfl) (fun _ _ _ h => h) (Or.inl ⟨by rfl, ?d101_2xy1⟩) (by assumption) ?d101_2xr1
        case d101_2xy1 => (intro w hSw; (try dsimp only at hSw); go_simp; try with_reducible rfl)
        (try simp only [Act.put])
        (try simp only [List.setIfInBounds_toArray])
        (try simp only [List.set_cons_succ])
        (try simp only [List.set_cons_zero])
        refine wpAnyH_take (i := 2) (oi := { dst := some 43, op := Op.indexAddr 40 (Operand.tmp 2) (Operand.tmp 42), type := 0, pos := "law.go:94", after := #[{ on := 1, ground := Ground.data }], guard := none }) (v := ?d101_3xv2) rfl (by kernel_rfl) (by kernel_rfl) (by kernel_rfl) (fun _ _ _ h => h) (Or.inl ⟨by rfl, ?d101_3xy2⟩) (by assumption) ?d101_3xr2
        case d101_3xy2 => (intro w hSw; (try dsimp only at hSw); go_simp; try with_reducible rfl)
        (try simp only [Act.put])
        (try simp only [List.setIfInBounds_toArray])
        (try simp only [List.set_cons_succ])
        (try simp only [List.set_cons_zero])
        refine wpAnyH_take (i := 3) (oi := { dst := some 44, op := Op.load 39 (Operand.tmp 43), type := 39, pos := "law.go:94", after := #[{ on := 2, ground := Ground.data }], guard := none }) (v := ?d101_4xv3) rfl (by kernel_rfl) (by kernel_rfl) (by kernel_rfl) (fun _ _ _ h => h) (Or.inl ⟨by rfl, ?d101_4xy3⟩) (by assumption) ?d101_4xr3
        case d101_4xy3 => (intro w hSw; (try dsimp only at hSw); go_simp; try with_reducible rfl)
        (try simp only [Act.put])
        (try simp only [List.setIfInBounds_toArray])
        (try simp only [List.set_cons_succ])
        (try simp only [List.set_cons_zero])
        refine wpAnyH_take (i := 4) (oi := { dst := some 45, op := Op.move (Operand.tmp 10), type := 3, pos := "law.go:94", after := #[], guard := none }) (v := ?d101_5xv4) rfl (by kernel_rfl) (by kernel_rfl) (by kernel_rfl) (fun _ _ _ h => h) (Or.inl ⟨by rfl, ?d101_5xy4⟩) (by assumption) ?d101_5xr4
        case d101_5xy4 => (intro w hSw; (try dsimp only at hSw); go_simp; try with_reducible rfl)
        (try simp only [Act.put])
        (try simp only [List.setIfInBounds_toArray])
        (try simp only [List.set_cons_succ])
        (try simp only [List.set_cons_zero])
        refine wpAnyH_take (i := 5) (oi := { dst := some 46, op := Op.indexAddr 40 (Operand.tmp 2) (Operand.tmp 45), type := 0, pos := "law.go:94", after := #[{ on := 4, ground := Ground.data }], guard := none }) (v := ?d101_6xv5) rfl (by kernel_rfl) (by kernel_rfl) (by kernel_rfl) (fun _ _ _ h => h) (Or.inl ⟨by rfl, ?d101_6xy5⟩) (by assumption) ?d101_6xr5
        case d101_6xy5 => (intro w hSw; (try dsimp only at hSw); go_simp; try with_reducible rfl)
        (try simp only [Act.put])
        (try simp only [List.setIfInBounds_toArray])
        (try simp only [List.set_cons_succ])
        (try simp only [List.set_cons_zero])
        refine wpAnyH_take (i := 6) (oi := { dst := some 47, op := Op.fieldAddr 39 (Operand.tmp 46) 0, type := 0, pos := "law.go:94", after := #[{ on := 5, ground := Ground.data }], guard := none }) (v := ?d101_7xv6) rfl (by kernel_rfl) (by kernel_rfl) (by kernel_rfl) (fun _ _ _ h => h) (Or.inl ⟨by rfl, ?d101_7xy6⟩) (by assumption) ?d101_7xr6
        case d101_7xy6 => (intro w hSw; (try dsimp only at hSw); go_simp; try with_reducible rfl)
        (try simp only [Act.put])
        (try simp only [List.setIfInBounds_toArray])
        (try simp only [List.set_cons_succ])
        (try simp only [List.set_cons_zero])
        refine wpAnyH_take (i := 7) (oi := { dst := some 48, op := Op.load 2 (Operand.tmp 47), type := 2, pos := "law.go:94", after := #[{ on := 6, ground := Ground.data }], guard := none }) (v := ?d101_8xv7) rfl (by kernel_rfl) (by kernel_rfl) (by kernel_rfl) (fun _ _ _ h => h) (Or.inl ⟨by rfl, ?d101_8xy7⟩) (by assumption) ?d101_8xr7
        case d101_8xy7 => (intro w hSw; (try dsimp only at hSw); go_simp; try with_reducible rfl)
        (try simp only [Act.put])
        (try simp only [List.setIfInBounds_toArray])
        (try simp only [List.set_cons_succ])
        (try simp only [List.set_cons_zero])
        refine wpAnyH_take (i := 8) (oi := { dst := some 49, op := Op.build 48 #[(0, Operand.tmp 41), (1, Operand.tmp 44), (2, Operand.tmp 48)], type := 48, pos := "law.go:94", after := #[{ on := 0, ground := Ground.data }, { on := 3, ground := Ground.data }, { on := 7, ground := Ground.data }], guard := none }) (v := ?d101_9xv8) rfl (by kernel_rfl) (by kernel_rfl) (by kernel_rfl) (fun _ _ _ h => h) (Or.inl ⟨by rfl, ?d101_9xy8⟩) (by assumption) ?d101_9xr8
        case d101_9xy8 => (intro w hSw; (try dsimp only at hSw); go_simp; try with_reducible rfl)
        (try simp only [Act.put])
        (try simp only [List.setIfInBounds_toArray])
        (try simp only [List.set_cons_succ])
        (try simp only [List.set_cons_zero])
        refine wpAnyH_ready (rs := [9]) (by kernel_rfl) (by simp) ?_
        refine AllReadyH.cons (o := { dst := some 14, op := Op.alloc 48, type := 0, pos := "law.go:94", after := #[], guard := none }) rfl (fun K hK => ?_) AllReadyH.nil
        go_simp
        have hlt_p14 := BB.out.size
        have hle_p14_BV := BV.out.le
        replace BV := Lib.hid (BV.out.below (below_new V100 (.cells #[.int .i64 0, .int .i64 0, .int .u32 0, .int .u32 0, .int .i64 0, .bool false] 48)))
        replace BB := Lib.hid (BB.out.trans ((below_new V100 (.cells #[.int .i64 0, .int .i64 0, .int .u32 0, .int .u32 0, .int .i64 0, .bool false] 48)).mono BB.out.size))
        have X14 := Lib.hid (Box.new V100 #[.int .i64 0, .int .i64 0, .int .u32 0, .int .u32 0, .int .i64 0, .bool false] 48 rfl)
        generalize World.alloc V100 (.cells #[.int .i64 0, .int .i64 0, .int .u32 0, .int .u32 0, .int .i64 0, .bool false] 48) = v101 at *
        generalize World.heap V100 = hp_p14 at *
        generalize hp_p14.size = p14 at *
        refine hK.out _ _ ?_ (fun hHeld => ?_)
        · exact ⟨(K2.out _ BV.out).2.1, (K2.out _ BV.out).2.2.1, (K2.out _ BV.out).2.2.2⟩
        clear hK K
        (try simp only [Act.put])
        (try simp only [List.setIfInBounds_toArray])
        (try simp only [List.set_cons_succ])
        (try simp only [List.set_cons_zero])
        refine wpAnyH_ready (rs := [10]) (by kernel_rfl) (by simp) ?_
        refine AllReadyH.cons (o := { dst := none, op := Op.store 48 (Operand.tmp 14) (Operand.tmp 49), type := 0, pos := "law.go:94", after := #[{ on := 9, ground := Ground.data }, { on := 8, ground := Ground.data }, { on := 0, ground := Ground.phase }, { on := 1, ground := Ground.phase }, { on := 2, ground := Ground.phase }, { on := 3, ground := Ground.phase }, { on := 4, ground := Ground.phase }, { on := 5, ground := Ground.phase }, { on := 6, ground := Ground.phase }, { on := 7, ground := Ground.phase }, { on := 8, ground := Ground.phase }, { on := 9, ground := Ground.phase }], guard := none }) rfl (fun K hK => ?_) AllReadyH.nil
        obtain ⟨⟨m0, m1, m2, m3, m4, m5⟩, g0, g1, g2, g3, g4, g5⟩ := X14.out.cells6
        go_simp
        clear m0 g0 m1 g1 m2 g2 m3 g3 m4 g4 m5 g5
        replace BV := Lib.hid ((Lat.put (Lat.put (Lat.put (Lat.put (Lat.put (Lat.put BV.out p14 (by omega) 0 (.int .i64 (a : Nat))) p14 (by omega) 1 (.int .i64 c0)) p14 (by omega) 2 (.int .u32 c1)) p14 (by omega) 3 (.int .u32 c2)) p14 (by omega) 4 (.int .i64 c0)) p14 (by omega) 5 (.bool false)))
        replace BB := Lib.hid (((((((BB.out).put p14 (by omega) 0 (.int .i64 (a : Nat))).put p14 (by omega) 1 (.int .i64 c0)).put p14 (by omega) 2 (.int .u32 c1)).put p14 (by omega) 3 (.int .u32 c2)).put p14 (by omega) 4 (.int .i64 c0)).put p14 (by omega) 5 (.bool false))
        replace X14 := Lib.hid (((((((X14.out).set 0 (.int .i64 (a : Nat))).set 1 (.int .i64 c0)).set 2 (.int .u32 c1)).set 3 (.int .u32 c2)).set 4 (.int .i64 c0)).set 5 (.bool false))
        generalize (World.setCell (World.setCell (World.setCell (World.setCell (World.setCell (World.setCell v101 ⟨p14, 0, none⟩ (.int .i64 (a : Nat))) ⟨p14, 1, none⟩ (.int .i64 c0)) ⟨p14, 2, none⟩ (.int .u32 c1)) ⟨p14, 3, none⟩ (.int .u32 c2)) ⟨p14, 4, none⟩ (.int .i64 c0)) ⟨p14, 5, none⟩ (.bool false)) = v102 at *
        refine hK.out _ _ ?_ (fun hHeld => ?_)
        · exact ⟨(K2.out _ BV.out).2.1, (K2.out _ BV.out).2.2.1, (K2.out _ BV.out).2.2.2⟩
        clear hK K
        (try simp only [Act.put])
        (try simp only [List.setIfInBounds_toArray])
        (try simp only [List.set_cons_succ])
        (try simp only [List.set_cons_zero])
        refine wpAnyH_done (by kernel_rfl) ?_ _
        clear hHeld
        have NO := Lib.hid (row_new RO.out hle_p14_BV)
        have N2 := Lib.hid (row_new R2.out hle_p14_BV)
        have N7 := Lib.hid (row_new R7.out hle_p14_BV)
        have N5 := Lib.hid (show q + 1 ≠ p14 by have := X5.out.lt; omega)
        have N9 := Lib.hid (show p9 ≠ p14 by have := X9.out.lt; omega)
        have NB := Lib.hid (show w.heap.size ≤ p14 by have := BB0.out.size; omega)
        replace RO := Lib.hid (RO.out.below BV.out.out)
        replace R2 := Lib.hid (R2.out.below BV.out.out)
        replace R7 := Lib.hid (R7.out.below BV.out.out)
        replace X5 := Lib.hid (X5.out.below BV.out.out)
        replace X9 := Lib.hid (X9.out.below BV.out.out)
        clear BV K2 BB0
        have v0 := X9.out.cell 0
        have v1 := X9.out.cell 1
        have v2 := X9.out.cell 2
        simp at v0 v1 v2
        cases p2 with
        | false =>
          rw [if_neg (show ¬ (false : Bool) = true by decide), if_neg (show ¬ (false : Bool) = true by decide)] at HS
          go_upto_region 18 with fail
          clear v0 v1 v2
          generalize v102 = w12 at *
          have E3 := Lib.hid (SK.ofBox (E := enE) (Box.new w12 #[.int .i64 (a : Nat), .int .i64 c0, .int .u32 c1, .int .u32 c2, .int .i64 c0, .bool false] 48 rfl) (L := [((a : Int), (c0, c1, c2), c0, false)]) (n := 1) (cap := 1) rfl rfl (Nat.le_refl _))
          have MA := Lib.hid (RO.out.below (below1 w12 (.cells #[.int .i64 (a : Nat), .int .i64 c0, .int .u32 c1, .int .u32 c2, .int .i64 c0, .bool false] 48)))
          have BA := Lib.hid (BB.out.alloc BB.out.size (.cells #[.int .i64 (a : Nat), .int .i64 c0, .int .u32 c1, .int .u32 c2, .int .i64 c0, .bool false] 48))
          have R2A := Lib.hid (R2.out.below (below1 w12 (.cells #[.int .i64 (a : Nat), .int .i64 c0, .int .u32 c1, .int .u32 c2, .int .i64 c0, .bool false] 48)))
          have R7A := Lib.hid (R7.out.below (below1 w12 (.cells #[.int .i64 (a : Nat), .int .i64 c0, .int .u32 c1, .int .u32 c2, .int .i64 c0, .bool false] 48)))
          have X5A := Lib.hid (X5.out.below (below1 w12 (.cells #[.int .i64 (a : Nat), .int .i64 c0, .int .u32 c1, .int .u32 c2, .int .i64 c0, .bool false] 48)))
          have v0 := X14.out.cell 0
          have v1 := X14.out.cell 1
          have v2 := X14.out.cell 2
          have v3 := X14.out.cell 3
          have v4 := X14.out.cell 4
          have v5 := X14.out.cell 5
          simp at v0 v1 v2 v3 v4 v5
          go_wp2_with (first
            | (at_builtin; refine wpList_appK (w0 := w) Tryd.underlying22 infoEn rfl (by decide) _ rfl (.tmp 66) (.tmp 68) rfl rfl BA.out MA.out rfl E3.out (by simp; rw [HON.out]; have := SL.out; omega) ?_; intro v3 w3 r3 b3 g3; have R3 := Lib.hid r3; have B3 := Lib.hid b3; have T2 := Lib.hid (R2A.out.grownOther g3 (rowne R2A.out MA.out (by decide))); have T7 := Lib.hid (R7A.out.grownOther g3 (rowne R7A.out MA.out (by decide))); have T5 := Lib.hid (X5A.out.grown g3 (box_not_rowK MA.out X5A.out (by decide))); clear r3 b3 g3)
            | fail)
          go_roundw
          case rel => exact ⟨k + 1, by omega, by go_num, by rw [HS.out]; exact R3.out, by rw [HS.out]; exact T7.out, T2.out, T5.out, B3.out⟩
          case measure => simp [intOf]; omega
        | true =>
          rw [if_pos rfl, if_pos rfl] at HS
          have z0 := X14.out.cell 0
          have z1 := X14.out.cell 1
          have z2 := X14.out.cell 2
          have z3 := X14.out.cell 3
          have z4 := X14.out.cell 4
          have z5 := X14.out.cell 5
          simp at z0 z1 z2 z3 z4 z5
          have f0 := X14.out.free 0
          have f1 := X14.out.free 1
          have f2 := X14.out.free 2
          have f3 := X14.out.free 3
          have f4 := X14.out.free 4
          have f5 := X14.out.free 5
          have l14 := X14.out.lt
          go_upto_region 17 with fail
          clear v0 v1 v2 z0 z1 z2 z3 z4 z5 f0 f1 f2 f3 f4 f5 l14
          replace RO := Lib.hid ((RO.out.otherSet NO.out (4) (.int .i64 p1)).otherSet NO.out (5) (.bool true))
          replace R2 := Lib.hid ((R2.out.otherSet N2.out (4) (.int .i64 p1)).otherSet N2.out (5) (.bool true))
          replace R7 := Lib.hid ((R7.out.otherSet N7.out (4) (.int .i64 p1)).otherSet N7.out (5) (.bool true))
          replace X5 := Lib.hid ((X5.out.other N5.out (4) (.int .i64 p1)).other N5.out (5) (.bool true))
          replace X9 := Lib.hid ((X9.out.other N9.out (4) (.int .i64 p1)).other N9.out (5) (.bool true))
          replace BB := Lib.hid ((BB.out.put p14 NB.out (4) (.int .i64 p1)).put p14 NB.out (5) (.bool true))
          replace X14 := Lib.hid (show Box _ p14 #[.int .i64 (a : Nat), .int .i64 c0, .int .u32 c1, .int .u32 c2, .int .i64 p1, .bool true] 48 from ((X14.out.set 4 (.int .i64 p1)).set 5 (.bool true)))
          generalize ((v102.setCell ⟨p14, 4, none⟩ (.int .i64 p1)).setCell ⟨p14, 5, none⟩ (.bool true)) = w10 at *
          have M7 := Lib.hid (show some q7 ≠ (Value.slice oa j oc).ownBlock from fun h => rowne RO.out R7.out (by decide) q7 h.symm rfl)
          have M2 := Lib.hid (show some q7 ≠ (Value.slice (some ⟨q, 0, none⟩) 6 6).ownBlock from fun h => N72.out (by simpa [Value.ownBlock] using h.symm))
          have M9 := Lib.hid (show p9 ≠ q7 from fun h => box_not_rowK R7.out X9.out (by decide) (by rw [h]; rfl))
          have M14 := Lib.hid (show p14 ≠ q7 from fun h => box_not_rowK R7.out X14.out (by decide) (by rw [h]; rfl))
          have Q7 := Lib.hid (show w.heap.size ≤ q7 from by
            obtain ⟨g', e, h1, _⟩ := R7.out.block (by omega)
            injection e with e
            injection e with e
            subst e; exact h1)
          have hpj : a < (S k).2.length := by rw [S6.out]; exact a6
          obtain ⟨⟨d0, d1, d2⟩, f0, f1, f2⟩ := R7.out.at3 (i := a) hpj
          obtain ⟨⟨y0, y1, y2⟩, -, -, -⟩ := R2.out.at3 (i := a) (by rw [L6.out]; exact a6)
          rw [HCW.out] at y0 y1 y2
          simp only at y0 y1 y2
          have v0 := X9.out.cell 0
          have v1 := X9.out.cell 1
          have v2 := X9.out.cell 2
          simp at v0 v1 v2
          have mixed : Tryd.prog.follows Departure.mixedOrders = true := by kernel_rfl
          go_big_region_o
          clear d0 d1 d2 f0 f1 f2 y0 y1 y2 v0 v1 v2 mixed
          replace RO := Lib.hid (((RO.out.otherSet M7.out (a * 3) (.int .i64 p1)).otherSet M7.out (a * 3 + 1) (.int .u32 ((c1 + 1) % 4294967296))).otherSet M7.out (a * 3 + 2) (.int .u32 0))
          replace R2 := Lib.hid (((R2.out.otherSet M2.out (a * 3) (.int .i64 p1)).otherSet M2.out (a * 3 + 1) (.int .u32 ((c1 + 1) % 4294967296))).otherSet M2.out (a * 3 + 2) (.int .u32 0))
          replace X5 := Lib.hid (((X5.out.other N75.out (a * 3) (.int .i64 p1)).other N75.out (a * 3 + 1) (.int .u32 ((c1 + 1) % 4294967296))).other N75.out (a * 3 + 2) (.int .u32 0))
          replace X9 := Lib.hid (((X9.out.other M9.out (a * 3) (.int .i64 p1)).other M9.out (a * 3 + 1) (.int .u32 ((c1 + 1) % 4294967296))).other M9.out (a * 3 + 2) (.int .u32 0))
          replace X14 := Lib.hid (((X14.out.other M14.out (a * 3) (.int .i64 p1)).other M14.out (a * 3 + 1) (.int .u32 ((c1 + 1) % 4294967296))).other M14.out (a * 3 + 2) (.int .u32 0))
          replace BB := Lib.hid (((BB.out.put q7 Q7.out (a * 3) (.int .i64 p1)).put q7 Q7.out (a * 3 + 1) (.int .u32 ((c1 + 1) % 4294967296))).put q7 Q7.out (a * 3 + 2) (.int .u32 0))
          replace R7 := Lib.hid (R7.out.put3 hpj p1 ((c1 + 1) % 4294967296) 0)
          generalize (((w10.setCell ⟨q7, a * 3, none⟩ (.int .i64 p1)).setCell ⟨q7, a * 3 + 1, none⟩ (.int .u32 ((c1 + 1) % 4294967296))).setCell ⟨q7, a * 3 + 2, none⟩ (.int .u32 0)) = w11 at *
          replace RO := Lib.hid (RO.out.below ((Below.refl w11.heap.size w11).drew))
          replace R2 := Lib.hid (R2.out.below ((Below.refl w11.heap.size w11).drew))
          replace R7 := Lib.hid (R7.out.below ((Below.refl w11.heap.size w11).drew))
          replace X5 := Lib.hid (X5.out.below ((Below.refl w11.heap.size w11).drew))
          replace X14 := Lib.hid (X14.out.below ((Below.refl w11.heap.size w11).drew))
          replace BB := Lib.hid (BB.out.drew)
          generalize w11.drew = w12 at *
          go_upto_region 18 with fail
          have E3 := Lib.hid (SK.ofBox (E := enE) (Box.new w12 #[.int .i64 (a : Nat), .int .i64 c0, .int .u32 c1, .int .u32 c2, .int .i64 p1, .bool true] 48 rfl) (L := [((a : Int), (c0, c1, c2), p1, true)]) (n := 1) (cap := 1) rfl rfl (Nat.le_refl _))
          have MA := Lib.hid (RO.out.below (below1 w12 (.cells #[.int .i64 (a : Nat), .int .i64 c0, .int .u32 c1, .int .u32 c2, .int .i64 p1, .bool true] 48)))
          have BA := Lib.hid (BB.out.alloc BB.out.size (.cells #[.int .i64 (a : Nat), .int .i64 c0, .int .u32 c1, .int .u32 c2, .int .i64 p1, .bool true] 48))
          have R2A := Lib.hid (R2.out.below (below1 w12 (.cells #[.int .i64 (a : Nat), .int .i64 c0, .int .u32 c1, .int .u32 c2, .int .i64 p1, .bool true] 48)))
          have R7A := Lib.hid (R7.out.below (below1 w12 (.cells #[.int .i64 (a : Nat), .int .i64 c0, .int .u32 c1, .int .u32 c2, .int .i64 p1, .bool true] 48)))
          have X5A := Lib.hid (X5.out.below (below1 w12 (.cells #[.int .i64 (a : Nat), .int .i64 c0, .int .u32 c1, .int .u32 c2, .int .i64 p1, .bool true] 48)))
          have v0 := X14.out.cell 0
          have v1 := X14.out.cell 1
          have v2 := X14.out.cell 2
          have v3 := X14.out.cell 3
          have v4 := X14.out.cell 4
          have v5 := X14.out.cell 5
          simp at v0 v1 v2 v3 v4 v5
          go_wp2_with (first
            | (at_builtin; refine wpList_appK (w0 := w) Tryd.underlying22 infoEn rfl (by decide) _ rfl (.tmp 66) (.tmp 68) rfl rfl BA.out MA.out rfl E3.out (by simp; rw [HON.out]; have := SL.out; omega) ?_; intro v3 w3 r3 b3 g3; have R3 := Lib.hid r3; have B3 := Lib.hid b3; have T2 := Lib.hid (R2A.out.grownOther g3 (rowne R2A.out MA.out (by decide))); have T7 := Lib.hid (R7A.out.grownOther g3 (rowne R7A.out MA.out (by decide))); have T5 := Lib.hid (X5A.out.grown g3 (box_not_rowK MA.out X5A.out (by decide))); clear r3 b3 g3)
            | fail)
          go_roundw
          case rel => exact ⟨k + 1, by omega, by go_num, by rw [HS.out]; exact R3.out, by rw [HS.out]; exact T7.out, T2.out, T5.out, B3.out⟩
          case measure => simp [intOf]; omega
    · obtain rfl : k = kp := by omega
      go_upto_region 20 with fail
      have B7 := Lib.hid (R7.out.box6 S6.out)
      obtain ⟨lc, hlc⟩ : ∃ l, wdE.flat (S k).2 = l := ⟨_, rfl⟩
      have A7 := Lib.hid (show Arr6 lc.toArray (S k).2 from ⟨by rw [hlc], S6.out⟩)
      rw [hlc] at B7
      have N75' := Lib.hid N75.out
      have Q5 := Lib.hid (show w.heap.size ≤ q + 1 by have := HQ.out; omega)
      clear hlc R2 R7 SS SM
      refine wp_region_held_drew (S := fun wz => wz.rangeAt q7 0 lc) (by kernel_rfl) (by rw [World.rangeAt_drew]; exact box_range B7.out) (fun hHeld => ?_)
      replace B7 := Lib.hid (B7.out.below ((Below.refl _ _).drew))
      replace X5 := Lib.hid (X5.out.below ((Below.refl _ _).drew))
      replace RO := Lib.hid (RO.out.below ((Below.refl _ _).drew))
      replace BB := Lib.hid (BB.out.drew)
      generalize World.drew wr = V at B7 X5 RO BB hHeld ⊢
      have HINF : Hid ((Tryd.prog.info? 40).map (·.size) = some lc.length) := Lib.hid (by have e := A7.out.size; rw [List.size_toArray] at e; rw [e]; exact infoA)
      refine wpAnyH_take (i := 0) (oi := { dst := some 71, op := Op.move (Operand.tmp 6), type := 22, pos := "law.go:101", after := #[], guard := none }) (v := ?v0) rfl (by kernel_rfl) (by kernel_rfl) (by kernel_rfl) (fun _ _ _ h => h) (Or.inl ⟨by rfl, ?y0⟩) (by assumption) ?r0
      case y0 => (intro w hSw; (try dsimp only at hSw); go_simp; try with_reducible rfl)
      (try simp only [Act.put])
      (try simp only [List.setIfInBounds_toArray])
      (try simp only [List.set_cons_succ])
      (try simp only [List.set_cons_zero])
      refine wpAnyH_take (i := 1) (oi := { dst := some 72, op := Op.load 40 (Operand.tmp 7), type := 40, pos := "law.go:101", after := #[{ on := 2, ground := Ground.gcOnly Departure.lateStores }], guard := none }) (v := .agg lc.toArray) rfl (by kernel_rfl) (by kernel_rfl) (by kernel_rfl) (fun _ _ _ h => h) (yieldsIf_load_mid (by rfl) 40 (.tmp 7) rfl q7 0 rfl lc _ (fun _ h => h) Tryd.underlying40 rfl HINF.out) (by assumption) ?_
      (try simp only [Act.put])
      (try simp only [List.setIfInBounds_toArray])
      (try simp only [List.set_cons_succ])
      (try simp only [List.set_cons_zero])
      refine wpAnyH_ready (rs := [2]) (by kernel_rfl) (by simp) ?_
      refine AllReadyH.cons (o := { dst := some 4, op := Op.assign (Operand.tmp 71), type := 22, pos := "law.go:101", after := #[{ on := 0, ground := Ground.data }, { on := 0, ground := Ground.phase }, { on := 1, ground := Ground.textOnly Departure.lateStores }], guard := none }) rfl (fun K hK => ?_) AllReadyH.nil
      go_simp
      refine hK.out _ _ ?_ (fun hHeld => ?_)
      · exact box_range B7.out
      clear hK K
      (try simp only [Act.put])
      (try simp only [List.setIfInBounds_toArray])
      (try simp only [List.set_cons_succ])
      (try simp only [List.set_cons_zero])
      refine wpAnyH_ready (rs := [3]) (by kernel_rfl) (by simp) ?_
      refine AllReadyH.cons (o := { dst := none, op := Op.store 40 (Operand.tmp 5) (Operand.tmp 72), type := 0, pos := "law.go:101", after := #[{ on := 1, ground := Ground.data }, { on := 2, ground := Ground.chain }, { on := 0, ground := Ground.phase }, { on := 1, ground := Ground.phase }, { on := 2, ground := Ground.phase }], guard := none }) rfl (fun K hK => ?_) AllReadyH.nil
      rw [if_pos (by rfl)]
      refine wp_store_row 40 (.tmp 5) (.tmp 72) rfl (q + 1) lc.toArray rfl rfl 40 zA X5.out (by rw [A7.out.size]; exact infoA) (ZS.out.trans A7.out.size.symm) A7.out.one ?_
      refine hK.out _ _ ?_ (fun hHeld => ?_)
      · exact box_range (B7.out.row N75.out.symm)
      clear hK K
      (try simp only [Act.put])
      (try simp only [List.setIfInBounds_toArray])
      (try simp only [List.set_cons_succ])
      (try simp only [List.set_cons_zero])
      refine wpAnyH_done (by kernel_rfl) ?_ _
      clear hHeld
      go_wp2_with fail
      exact made_end (q + 1) _ lc.toArray rfl rfl rfl (Box.rowSame X5.out) (by rw [← SE.out]; exact A7.out) (by rw [← SE.out]; exact (row_row RO.out (box_not_rowK RO.out X5.out (by decide))).sk) (below_row BB.out Q5.out _)
end Go.Proofs.YtjphhfgomlchoaaDoor
