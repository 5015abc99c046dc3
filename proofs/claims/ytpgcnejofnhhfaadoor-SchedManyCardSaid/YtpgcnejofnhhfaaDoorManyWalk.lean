/- Statement SchedMany: the walk through the law for every input. -/
import Derived.Test.YtpgcnejofnhhfaaDoorManyPlain
import Derived.Test.YtpgcnejofnhhfaaDoorAwake
namespace Go.Proofs.YtpgcnejofnhhfaaDoor.schedMany
open Go.ChangeShapes Go.WideShapes Go.ChangeAt Go.RowKit Go.Shelf Go.Maps
def Good (w : World) (e : Ending) (w' : World) : Prop := e = .returned (.bool true) ∧ Below w.heap.size w w'
/-- The block B holds n picks, the first k of them are p. -/
def FillIn (w : World) (B n : Nat) (p : Pk) (k : Nat) (W : World) : Prop :=
  ∃ cs : Array Value, Box W B cs 35 ∧ cs.size = n * 3 ∧ (∀ i, i < k → cs[i * 3]? = some (.int .i64 p.1) ∧ cs[i * 3 + 1]? = some (.int .i64 p.2.1) ∧ cs[i * 3 + 2]? = some (.int .i64 p.2.2)) ∧ Below B w W
theorem FillIn.below {w W W' : World} {B n k : Nat} {p : Pk} (h : FillIn w B n p k W) (hb : Below W.heap.size W W') : FillIn w B n p k W' := by
  obtain ⟨cs, h1, h2, h3, h4⟩ := h
  exact ⟨cs, h1.below hb, h2, h3, h4.trans (hb.mono (Nat.le_of_lt h1.lt))⟩
theorem FillIn.anew {w W : World} {B n k : Nat} {p : Pk} (q : Pk) (h : FillIn w B n p k W) : FillIn w B n q 0 W := by
  obtain ⟨cs, h1, h2, h3, h4⟩ := h
  exact ⟨cs, h1, h2, by omega, h4⟩
theorem FillIn.next {w W : World} {B n k : Nat} {p : Pk} (h : FillIn w B n p k W) (hk : k < n) : FillIn w B n p (k + 1) (((W.setCell ⟨B, k * 3, none⟩ (.int .i64 p.1)).setCell ⟨B, k * 3 + 1, none⟩ (.int .i64 p.2.1)).setCell ⟨B, k * 3 + 2, none⟩ (.int .i64 p.2.2)) := by
  obtain ⟨cs, BX, hcs, HC, BB⟩ := h
  refine ⟨_, ((BX.set (k * 3) _).set (k * 3 + 1) _).set (k * 3 + 2) _, by simpa using hcs, fun i hi => ?_, below_set (below_set (below_set BB (Nat.le_refl _) _ _) (Nat.le_refl _) _ _) (Nat.le_refl _) _ _⟩
  rcases Nat.lt_or_ge i k with h | h
  · obtain ⟨e0, e1, e2⟩ := HC i h
    refine ⟨Eq.trans ?_ e0, Eq.trans ?_ e1, Eq.trans ?_ e2⟩ <;> simp only [Array.getElem?_setIfInBounds, Array.size_setIfInBounds] <;> rw [if_neg (by omega), if_neg (by omega), if_neg (by omega)]
  · obtain rfl : i = k := by omega
    refine ⟨?_, ?_, ?_⟩ <;> simp only [Array.getElem?_setIfInBounds, Array.size_setIfInBounds]
    · rw [if_neg (by omega), if_neg (by omega), if_pos trivial, if_pos (by omega)]
    · rw [if_neg (by omega), if_pos trivial, if_pos (by omega)]
    · rw [if_pos trivial, if_pos (by omega)]
theorem FillIn.cells {w W : World} {B n k : Nat} {p : Pk} (h : FillIn w B n p k W) {i : Nat} (hi : i < n) : ∃ x y z, (W.cell? ⟨B, i * 3, none⟩ = some x ∧ W.cell? ⟨B, i * 3 + 1, none⟩ = some y ∧ W.cell? ⟨B, i * 3 + 2, none⟩ = some z) ∧ W.frozen? ⟨B, i * 3, none⟩ = false ∧ W.frozen? ⟨B, i * 3 + 1, none⟩ = false ∧ W.frozen? ⟨B, i * 3 + 2, none⟩ = false := by
  obtain ⟨cs, BX, hcs, HC, BB⟩ := h
  exact ⟨cs[i * 3]'(by omega), cs[i * 3 + 1]'(by omega), cs[i * 3 + 2]'(by omega), ⟨(BX.cell _).trans (by rw [Array.getElem?_eq_getElem]), (BX.cell _).trans (by rw [Array.getElem?_eq_getElem]), (BX.cell _).trans (by rw [Array.getElem?_eq_getElem])⟩, BX.free _, BX.free _, BX.free _⟩
theorem FillIn.ps {w W : World} {B n : Nat} {p : Pk} (h : FillIn w B n p n W) : PS W (.slice (some ⟨B, 0, none⟩) n n) (List.replicate n p) := by
  obtain ⟨cs, BX, hcs, HC, BB⟩ := h
  refine ⟨some ⟨B, 0, none⟩, n, by rw [List.length_replicate], .inr ⟨B, 0, rfl, BX.lt, fun i hi => ?_⟩⟩
  rw [List.length_replicate] at hi
  rw [show (List.replicate n p).getD i zPk = p by simp [List.getD, hi], Nat.zero_add, BX.cell, BX.cell, BX.cell]
  exact HC i hi
theorem add_stp (k : Nat) : (⟨(repT k).toArray⟩ : ByteArray) ++ ⟨#[115, 116, 111, 112, 32, 49, 10]⟩ = ⟨(repT (k + 1)).toArray⟩ := by
  rw [← repT_snoc]
  apply ByteArray.ext
  simp [ByteArray.data_append, stp]
theorem parse_rep (n : Nat) (h : n ≤ 4096) : parseL ⟨(repT n).toArray⟩ = (List.replicate n (1, 1, 0), 0, 0) := by
  have hs : (⟨(repT n).toArray⟩ : ByteArray).size = 7 * n := by simp [ByteArray.size, repT_len]
  unfold parseL
  rw [if_pos (by omega), go_rep n _ [] (by rw [repT_len, hs]; omega) (by simp; omega)]
  simp
theorem parse_too (n : Nat) (h : 4096 < n) (h2 : n ≤ 5000) : parseL ⟨(repT n).toArray⟩ = ([], 4097, 15) := by
  have hs : (⟨(repT n).toArray⟩ : ByteArray).size = 7 * n := by simp [ByteArray.size, repT_len]
  unfold parseL
  rw [if_pos (by omega), go_many n _ [] (by rw [repT_len, hs]; omega) (by simp) (by simp; omega)]
theorem rep_ok (n : Nat) (p : Pk) (h : I64 p.1 ∧ I64 p.2.1 ∧ I64 p.2.2) : PkOk (List.replicate n p) := fun q hq => by
  obtain rfl := List.eq_of_mem_replicate hq
  exact h
set_option maxRecDepth 100000 in
theorem row_form {b n c : Nat} {w : World} {a : Option Addr} {p : Pk} (h : Row 35 b w (.slice a n c) (List.replicate n p)) (hn : 0 < n) : ∃ rg rc, (Value.slice a n c) = .slice (some ⟨rg, 0, none⟩) n rc ∧ n ≤ rc := by
  obtain ⟨-, ⟨h2, -⟩ | ⟨g2, c2, cur2, hv2, -, hh2, k1, -⟩⟩ := h
  · cases h2; omega
  · rw [List.length_replicate] at hv2 k1
    exact ⟨g2, c2, hv2, k1⟩
theorem row_one {b n c g : Nat} {w : World} {p : Pk} (h : Row 35 b w (.slice (some ⟨g, 0, none⟩) n c) (List.replicate n p)) (hn : 0 < n) : PS w (.slice (some ⟨g, 0, none⟩) 1 c) [p] := by
  obtain ⟨a, cap, hv, h0 | ⟨b1, off, ha, hl, hc⟩⟩ := h.ps
  · have := congrArg List.length h0; simp at this; omega
  · rw [List.length_replicate] at hv
    cases hv
    cases ha
    refine ⟨_, c, rfl, .inr ⟨g, 0, rfl, hl, fun i hi => ?_⟩⟩
    obtain rfl : i = 0 := by simpa using hi
    have := hc 0 (by simpa using hn)
    rwa [show (List.replicate n p).getD 0 zPk = p by simp [List.getD, hn]] at this
theorem brow_zero {b g : Nat} {w : World} (h : w.ownsRow b 5 1 (.slice (some ⟨g, 0, none⟩) 65537 65537) 65537 (madeCells (Value.int .u8 0).cells (65537 * 1)).toList) : ∃ z : ByteArray, z.size = 65537 ∧ (convert 56 9 (.slice (some ⟨g, 0, none⟩) 65537 65537)).run Tryd.prog w = .ok (.string z) w := by
  generalize 65537 = N at *
  have e : (madeCells (Value.int .u8 0).cells (N * 1)).toList = Lib.byteCells (List.replicate N 0) := by
    have e2 : Lib.byteCells (List.replicate N 0) = List.replicate N (.int .u8 0) := by simp [Lib.byteCells]
    rw [e2]
    apply List.ext_getElem
    · simp [madeCells]
    · intro i h1 h2
      simp [madeCells, Value.cells, Nat.mod_one]
  rw [e] at h
  have hr : BRow b w (.slice (some ⟨g, 0, none⟩) N N) (List.replicate N 0) := by unfold BRow; rw [List.length_replicate]; exact h
  obtain ⟨a, cap, _, hc⟩ := hr.form
  exact ⟨_, by simp [ByteArray.size], hc⟩
theorem row_keep {w : World} {b B n c : Nat} {a : Option Addr} {L : List Pk} (h : Row 35 b w (.slice a n c) L) (hB : B < b) (i : Nat) (u : Value) : Row 35 b (w.setCell ⟨B, i, none⟩ u) (.slice a n c) L :=
  ownsRow_setCell_other h (a := ⟨B, i, none⟩) (fun e => by have := (World.ownsRow.lt h B e).1; omega) u
set_option maxRecDepth 100000 in
set_option maxHeartbeats 3200000 in
theorem walk (x : Int) (w : World) (x0 : 0 ≤ x) (x1 : x ≤ 255) (hg : Gl w) (hT : Tab w) : Calls Tryd.prog 10 #[.int .u8 x] w (Good w) := by
  obtain ⟨i0, hi, hz0, hz1, hz2⟩ := info_parts info35
  obtain ⟨j0, hj0, hy0, hy1, hy2⟩ := info_parts info5
  have HG := Lib.hid hg
  have HT := Lib.hid hT
  have h9 := hg.big
  obtain ⟨n, hn⟩ : ∃ n : Nat, 4090 + x % 12 = (n : Int) := ⟨(4090 + x % 12).toNat, by omega⟩
  have hn1 : 4090 ≤ n := by omega
  have hn2 : n ≤ 4101 := by omega
  have y0 : 0 ≤ x % 12 := by omega
  have y1 : x % 12 < 12 := by omega
  clear hg hT
  go_enter Tryd.func10, Tryd.ntmps10
  go_wp2_with (first | (at_make; refine wpList_make_full _ rfl _ _ 23 rfl w.heap.size 35 i0 _ 3 Tryd.underlying23 hi hz0 hz1 _ _ _ _ n rfl rfl (by first | rfl | exact hn | omega) (by first | rfl | exact hn | omega) (by rw [hz2]; omega) (by unfold maxLen; omega) (Nat.le_refl _) ?_))
  intro w1 hown hg1
  have F0 : Hid (FillIn w w.heap.size n (1, 1, 0) 0 w1) := Lib.hid ⟨_, own_box hown, by rw [List.size_toArray]; exact hown.1, by omega, (Below.refl _ _).grown hg1 (Nat.le_refl _) (fun j hj => by cases hj)⟩
  clear hown hg1
  obtain ⟨B, hB⟩ : ∃ B, w.heap.size = B := ⟨_, rfl⟩
  have HB := Lib.hid hB
  rw [hB] at F0 h9 ⊢
  clear hB
  try rw [hn]
  clear hn y0 y1 x0 x1
  go_wp2_with fail
  go_loopw [5, 26] (fun sv iv wr => ∃ k : Nat, k ≤ n ∧ iv = .int .i64 k ∧ sv = .string ⟨(repT k).toArray⟩ ∧ FillIn w B n (1, 1, 0) k wr) (fun _ iv _ => n - (intOf iv).toNat)
  case atStart => exact ⟨0, by omega, rfl, rfl, F0.out⟩
  case round =>
    obtain ⟨k, hk, rfl, rfl, hf⟩ := hrel
    have F := Lib.hid hf
    clear hf F0
    by_cases hlt : k < n
    · obtain ⟨u0, u1, u2, ⟨m0, m1, m2⟩, n0, n1, n2⟩ := F.out.cells hlt
      have HS := Lib.hid (add_stp k)
      have hq0 : (repT k).length = 7 * k := repT_len k
      have hq1 : (repT k).length + 7 ≤ 9223372036854775807 := by omega
      have hq2 : (⟨(repT k).toArray⟩ : ByteArray).size + 7 ≤ 9223372036854775807 := by simp only [ByteArray.size, List.size_toArray]; omega
      have hq3 : (⟨(repT k).toArray⟩ : ByteArray).size + (⟨#[115, 116, 111, 112, 32, 49, 10]⟩ : ByteArray).size ≤ 9223372036854775807 := hq2
      clear hq0
      go_wp2_with fail
      go_roundw
      case rel => exact ⟨k + 1, by omega, by go_num, by first | rw [← HS.out] | (congr 1; exact HS.out), F.out.next hlt⟩
      case measure => simp [intOf]; omega
    · obtain rfl : k = n := by omega
      have FB := F.out
      obtain ⟨cs9, bx9, -, -, bb9⟩ := FB
      have hbw : Below w.heap.size w wr := by rw [HB.out]; exact bb9
      have hws : B ≤ wr.heap.size := Nat.le_of_lt bx9.lt
      have G := Lib.hid (HG.out.belowN hbw HG.out.big)
      have TT := Lib.hid (HT.out.below hbw (by have := HG.out.big; omega))
      clear bx9 bb9 hbw
      have hsz : (⟨(repT k).toArray⟩ : ByteArray).size ≤ 65536 := by simp [ByteArray.size, repT_len]; omega
      by_cases hm : 4096 < k
      · have HPR : Hid (printL (List.replicate k (1, 1, 0)) = ([], 15)) := Lib.hid (by unfold printL; rw [if_pos (by simpa using hm)])
        have HPA := Lib.hid (parse_too k hm (by omega))
        have hm2 : (4096 : Int) < k := by omega
        have hkk : ¬ (k : Int) < k := by omega
        go_wp2_with fail
        refine (print_many _ _ _ F.out.ps (by simpa using hm)).mono ?_
        rintro e w2 ⟨he, hb⟩
        rw [HPR.out] at he
        simp only at he
        subst he
        replace F := Lib.hid (F.out.below hb)
        replace G := Lib.hid (G.out.below hb)
        clear hb
        go_wp2_with fail
        refine (parse_any _ _ hsz G.out).mono ?_
        rintro e w3 ⟨v, he, hr, hb⟩
        rw [HPA.out] at he hr
        simp only at he hr
        subst he
        obtain ⟨va, vc, hv, -⟩ := hr.ps
        subst hv
        simp only [List.length_nil]
        replace F := Lib.hid (F.out.below hb)
        replace G := Lib.hid (G.out.below hb)
        clear hb hr
        go_wp2_with fail
        refine (awake_any _ G.out).mono ?_
        rintro e w4 ⟨rfl, hb⟩
        replace F := Lib.hid (F.out.below hb)
        clear hb
        go_wp2_with fail
        go_ret
        obtain ⟨cs8, -, -, -, bb8⟩ := F.out
        exact ⟨rfl, by rw [HB.out]; exact bb8⟩
      · have HP2 := Lib.hid (print_ok k (by omega))
        have HP3 := Lib.hid (print_great k (by omega) hn1)
        have HPA := Lib.hid (parse_rep k (by omega))
        have hm2 : ¬ (4096 : Int) < k := by omega
        have hkk : ¬ (k : Int) < k := by omega
        go_wp2_with fail
        refine (print_any _ _ _ F.out.ps (rep_ok _ _ (by unfold I64; simp only; omega)) (by simpa using hm) G.out TT.out).mono ?_
        rintro e w2 ⟨he, hb⟩
        rw [HP2.out] at he
        generalize (printL (List.replicate k (1, 1, 0))).1 = t1 at he
        subst he
        replace F := Lib.hid (F.out.below hb)
        replace G := Lib.hid (G.out.below hb)
        have hbb := Nat.le_trans hws hb.size
        have hBb : B < w2.heap.size := by obtain ⟨cs8, bx8, -⟩ := F.out; exact bx8.lt
        clear hb
        go_wp2_with fail
        refine (parse_any _ _ hsz G.out).mono ?_
        rintro e w3 ⟨v, he, hr, hb⟩
        rw [HPA.out] at he hr
        simp only at he hr
        subst he
        have R := Lib.hid hr
        obtain ⟨va, vc, hv, -⟩ := hr.ps
        rw [List.length_replicate] at hv
        subst hv
        replace F := Lib.hid (F.out.below hb)
        clear hb hr
        have F2 := Lib.hid (F.out.anew (0, 8, -2147483648))
        clear F G TT
        go_wp2_with fail
        go_loopw [69] (fun iv wr => ∃ j : Nat, j ≤ k ∧ iv = .int .i64 j ∧ FillIn w B k (0, 8, -2147483648) j wr ∧ Row 35 w2.heap.size wr (.slice va k vc) (List.replicate k (1, 1, 0))) (fun iv _ => k - (intOf iv).toNat)
        case atStart => exact ⟨0, by omega, rfl, F2.out, R.out⟩
        case round =>
          obtain ⟨j, hj, rfl, hf, hr⟩ := hrel
          have F := Lib.hid hf
          have R2 := Lib.hid hr
          clear hf hr
          by_cases hjl : j < k
          · obtain ⟨u0, u1, u2, ⟨m0, m1, m2⟩, n0, n1, n2⟩ := F.out.cells hjl
            go_wp2_with fail
            go_roundw
            case rel => exact ⟨j + 1, by omega, by go_num, F.out.next hjl, row_keep (row_keep (row_keep R2.out hBb _ _) hBb _ _) hBb _ _⟩
            case measure => simp [intOf]; omega
          · obtain rfl : j = k := by omega
            obtain ⟨cs7, bx7, -, -, bb7⟩ := F.out
            have hbw : Below w.heap.size w wr := by rw [HB.out]; exact bb7
            have hws7 : B ≤ wr.heap.size := Nat.le_of_lt bx7.lt
            have G := Lib.hid (HG.out.belowN hbw HG.out.big)
            have TT := Lib.hid (HT.out.below hbw (by have := HG.out.big; omega))
            clear bx7 bb7 hbw F2 R
            go_wp2_with fail
            refine (print_any _ _ _ F.out.ps (rep_ok _ _ (by unfold I64; simp only; omega)) (by simpa using hm) G.out TT.out).mono ?_
            rintro e w4 ⟨he, hb⟩
            rw [HP3.out] at he
            generalize (printL (List.replicate j (0, 8, -2147483648))).1 = t2 at he
            subst he
            replace F := Lib.hid (F.out.below hb)
            replace G := Lib.hid (G.out.below hb)
            replace R2 := Lib.hid (R2.out.below hb)
            clear hb TT
            go_wp2_with (first | (at_make; refine wpList_make_full _ rfl _ _ 56 rfl w4.heap.size 5 j0 _ 1 Tryd.underlying56 hj0 hy0 hy1 _ _ _ _ 65537 rfl rfl rfl rfl (by rw [hy2]; omega) (by unfold maxLen; omega) (Nat.le_refl _) ?_))
            intro w5 hown hg5
            have BR := Lib.hid (brow_zero hown)
            have hb5 := (Below.refl w4.heap.size w4).grown hg5 (Nat.le_refl _) (fun j hj => by cases hj)
            replace F := Lib.hid (F.out.below hb5)
            replace G := Lib.hid (G.out.below hb5)
            replace R2 := Lib.hid (R2.out.below hb5)
            clear hown hg5 hb5
            obtain ⟨z, hz, hcv⟩ := BR.out
            clear BR
            go_wp2_with fail
            refine (parse_long z _ (by omega) (by omega)).mono ?_
            rintro e w6 ⟨v6, he, hr6, hb⟩
            rw [show parseL z = ([], 0, 7) by unfold parseL; rw [if_neg (by omega)]] at he
            simp only at he
            subst he
            replace F := Lib.hid (F.out.below hb)
            replace G := Lib.hid (G.out.below hb)
            replace R2 := Lib.hid (R2.out.below hb)
            clear hb hr6 hcv
            obtain ⟨rg, rc, hrv⟩ : ∃ rg rc, (Value.slice va j vc) = .slice (some ⟨rg, 0, none⟩) j rc ∧ j ≤ rc := row_form R2.out (by omega)
            obtain ⟨hrv, hrc⟩ := hrv
            cases hrv
            have P1 := Lib.hid (row_one R2.out (by omega))
            go_wp2_with fail
            rw [show (min (j : Int) 1).toNat = 1 by omega]
            have hb7 := below1 w6 (.cells #[.int .i64 1, .int .i64 1, .int .i64 0] 35)
            refine (alike_any _ _ [(1, 1, 0)] [(1, 1, 0)] _ (by decide) (P1.out.below hb7) (PS.box (Box.new w6 _ 35 rfl) rfl)).mono ?_
            rintro e w7 ⟨rfl, hb⟩
            rw [decide_eq_true rfl]
            replace F := Lib.hid ((F.out.below hb7).below hb)
            replace G := Lib.hid ((G.out.below hb7).below hb)
            clear hb hb7 P1 R2
            go_wp2_with fail
            refine (awake_any _ G.out).mono ?_
            rintro e w8 ⟨rfl, hb⟩
            replace F := Lib.hid (F.out.below hb)
            clear hb
            go_wp2_with fail
            go_ret
            obtain ⟨cs8, -, -, -, bb8⟩ := F.out
            exact ⟨rfl, by rw [HB.out]; exact bb8⟩
end Go.Proofs.YtpgcnejofnhhfaaDoor.schedMany
