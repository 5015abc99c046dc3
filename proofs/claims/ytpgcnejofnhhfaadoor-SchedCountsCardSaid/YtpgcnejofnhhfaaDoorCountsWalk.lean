/- Statement SchedCounts: the walk through the law for every input. -/
import Derived.Test.YtpgcnejofnhhfaaDoorAwake
import Derived.Test.YtpgcnejofnhhfaaDoorStops
namespace Go.Proofs.YtpgcnejofnhhfaaDoor.schedCounts
open Go.ChangeShapes Go.WideShapes Go.ChangeAt Go.RowKit Go.Shelf Go.Maps
def Good (w : World) (e : Ending) (w' : World) : Prop := e = .returned (.bool true) ∧ Below w.heap.size w w'
theorem below_iapp {B : Nat} {w wr w1 : World} {vo : Value} {l : List Int} {o : Obj} (hnx : Below B w wr) (hB : B ≤ wr.heap.size) (hown : IRow B wr vo l) (hg : (wr.alloc o).grownBy w1 vo.ownBlock) : Below B w w1 :=
  (hnx.alloc hB _).grown hg (by simp; omega) (fun j hj => (World.ownsRow.lt hown j hj).1)
theorem mem_take_succ (l : List Int) {j : Nat} (h : j < l.length) (x : Int) : decide (x ∈ l.take (j + 1)) = (decide (x ∈ l.take j) || (l.getD j 0 == x)) := by
  rw [List.take_succ_eq_append_getElem h, List.getD, List.getElem?_eq_getElem h]
  rw [Bool.eq_iff_iff]
  simp only [List.mem_append, List.mem_singleton, decide_eq_true_eq, Bool.or_eq_true, beq_iff_eq, Option.getD_some]
  exact ⟨fun h => h.imp id Eq.symm, fun h => h.imp id Eq.symm⟩
/-- What holds at the head of the law's first loop. -/
def HeadC (w : World) (L : List Pk) (t : Int) (nv ev iv : Value) (wr : World) : Prop :=
  ∃ k : Nat, k ≤ L.length ∧ iv = .int .i64 k ∧ nv = .int .i64 (countL t (L.take k)) ∧ IRow w.heap.size wr ev (stopsL (L.take k)) ∧ Below w.heap.size w wr
theorem walk_great (v : Value) (L : List Pk) (t : Int) (w : World) (hp : PS w v L) (hl : 300 < L.length) (hg : Gl w) : Calls Tryd.prog 9 #[v, .int .i64 t] w (Good w) := by
  have HA := Lib.hid (awake_any w hg)
  obtain ⟨a, cap, rfl, -⟩ := hp
  have h1 : (300 : Int) < L.length := by omega
  clear hg
  go_enter Tryd.func9, Tryd.ntmps9
  go_wp2_with fail
  refine HA.out.mono ?_
  rintro e w' ⟨rfl, hb⟩
  have BB := Lib.hid hb
  clear hb HA
  go_wp2_with fail
  go_ret
  exact ⟨rfl, BB.out⟩
set_option maxRecDepth 100000 in
set_option maxHeartbeats 3200000 in
theorem walk_ok (v : Value) (L : List Pk) (t : Int) (w : World) (hp : PS w v L) (ho : PkOk L) (hl : ¬ 300 < L.length) (hg : Gl w) : Calls Tryd.prog 9 #[v, .int .i64 t] w (Good w) := by
  obtain ⟨i0, hi, hz0, hz1, hz2⟩ := info_parts info3
  have HP := Lib.hid hp
  obtain ⟨a, cap, rfl, h⟩ := hp
  have H := Lib.hid h
  have HO := Lib.hid ho
  have HG := Lib.hid hg
  clear h ho hg
  obtain ⟨n, hn⟩ : ∃ n, L.length = n := ⟨_, rfl⟩
  rw [hn] at HP ⊢
  rw [hn] at hl
  have hl1 : ¬ (300 : Int) < n := by omega
  go_enter Tryd.func9, Tryd.ntmps9
  go_wp2_with fail
  go_loopw [5, 6, 20] (fun nv ev iv wr => HeadC w L t nv ev iv wr) (fun _ _ iv _ => n - (intOf iv).toNat)
  case atStart => exact ⟨0, by omega, rfl, rfl, IRow.nil _ _, Below.refl _ _⟩
  case round =>
    obtain ⟨k, hk, rfl, rfl, hrow, hb⟩ := hrel
    rw [hn] at hk
    have R := Lib.hid hrow
    have BB := Lib.hid hb
    have hws := hb.size
    clear hrow hb
    obtain ⟨ea, ecap, hev, -⟩ := R.out.is
    subst hev
    have hcl := countL_le t (L.take k)
    rw [List.length_take] at hcl
    have hcl2 : countL t (L.take k) ≤ 300 := by omega
    clear hcl
    have HLN := stopsL_len L k (by omega)
    by_cases hlt : k < n
    · rcases H.out with h | ⟨b0, off, rfl, hb0, hc⟩
      · subst h; simp at hn; omega
      obtain ⟨c0, c1, c2⟩ := hc k (by omega)
      rw [← BB.out.cell hb0] at c0 c1 c2
      have HS := Lib.hid (stopsL_succ L (k := k) (by omega))
      have HN := Lib.hid (countL_succ t L (k := k) (by omega))
      clear hc
      rw [← getD_eta L k] at HS
      generalize (L.getD k zPk).1 = x0 at *
      generalize (L.getD k zPk).2.1 = x1 at *
      generalize (L.getD k zPk).2.2 = x2 at *
      generalize stopsL (L.take k) = acc at *
      generalize countL t (L.take k) = cn at *
      have hbs := below1 wr (.cells #[.int .i64 x0, .int .i64 x1, .int .i64 x2] 35)
      have P1 : Hid (Box (wr.alloc (.cells #[.int .i64 x0, .int .i64 x1, .int .i64 x2] 35)) wr.heap.size #[.int .i64 x0, .int .i64 x1, .int .i64 x2] 35) := Lib.hid (Box.new wr _ 35 rfl)
      have R1 := Lib.hid (R.out.below hbs)
      have B1 := Lib.hid (BB.out.trans (hbs.mono hws))
      have hws1 := B1.out.size
      clear R BB
      by_cases hx0 : x0 = 0
      · subst hx0
        have e : stopStep acc (0, x1, x2) = acc := by simp [stopStep]
        by_cases hx1 : x1 = t
        · subst hx1
          go_wp2_with fail
          clear c0 c1 c2
          generalize wr.alloc (.cells #[.int .i64 _, .int .i64 _, .int .i64 _] 35) = W1 at *
          generalize wr.heap.size = bp at *
          obtain ⟨⟨m0, m1, m2⟩, n0, n1, n2⟩ := P1.out.cells3
          go_loop [9, 40] (fun sv jv => ∃ j : Nat, j ≤ acc.length ∧ jv = .int .i64 j ∧ sv = .bool true) (fun _ jv => acc.length - (intOf jv).toNat)
          case atStart => exact ⟨0, by omega, rfl, rfl⟩
          case round =>
            obtain ⟨j, hj, rfl, rfl⟩ := hrel
            by_cases hjl : j < acc.length
            · obtain ⟨ea', ecap', hev, h | ⟨b1, ha1, hb1, hc1⟩⟩ := R1.out.is
              · subst h; simp at hjl
              cases hev
              subst ha1
              have d0 := hc1 j hjl
              clear hc1
              go_wp2_with fail
              go_round
              case rel => exact ⟨j + 1, by omega, by go_num, rfl⟩
              case measure => simp [intOf]; omega
            · go_wp2_with fail
              go_roundw
              case rel => exact ⟨k + 1, by omega, by go_num, by rw [HN.out]; simp, by rw [HS.out, e]; exact R1.out, B1.out⟩
              case measure => simp [intOf]; omega
        · have hx1b : (x1 == t) = false := by rw [beq_eq_false_iff_ne]; exact hx1
          go_wp2_with fail
          clear c0 c1 c2
          generalize wr.alloc (.cells #[.int .i64 _, .int .i64 _, .int .i64 _] 35) = W1 at *
          generalize wr.heap.size = bp at *
          obtain ⟨⟨m0, m1, m2⟩, n0, n1, n2⟩ := P1.out.cells3
          go_loop [9, 40] (fun sv jv => ∃ j : Nat, j ≤ acc.length ∧ jv = .int .i64 j ∧ sv = .bool true) (fun _ jv => acc.length - (intOf jv).toNat)
          case atStart => exact ⟨0, by omega, rfl, rfl⟩
          case round =>
            obtain ⟨j, hj, rfl, rfl⟩ := hrel
            by_cases hjl : j < acc.length
            · obtain ⟨ea', ecap', hev, h | ⟨b1, ha1, hb1, hc1⟩⟩ := R1.out.is
              · subst h; simp at hjl
              cases hev
              subst ha1
              have d0 := hc1 j hjl
              clear hc1
              go_wp2_with fail
              go_round
              case rel => exact ⟨j + 1, by omega, by go_num, rfl⟩
              case measure => simp [intOf]; omega
            · go_wp2_with fail
              go_roundw
              case rel => exact ⟨k + 1, by omega, by go_num, by rw [HN.out]; simp [hx1], by rw [HS.out, e]; exact R1.out, B1.out⟩
              case measure => simp [intOf]; omega
      · have hx0b : (x0 == 0) = false := by rw [beq_eq_false_iff_ne]; exact hx0
        by_cases hx2 : x0 = 1
        · subst hx2
          go_wp2_with fail
          clear c0 c1 c2
          generalize wr.alloc (.cells #[.int .i64 _, .int .i64 _, .int .i64 _] 35) = W1 at *
          generalize wr.heap.size = bp at *
          obtain ⟨⟨m0, m1, m2⟩, n0, n1, n2⟩ := P1.out.cells3
          go_loop [9, 40] (fun sv jv => ∃ j : Nat, j ≤ acc.length ∧ jv = .int .i64 j ∧ sv = .bool (decide (x1 ∈ acc.take j))) (fun _ jv => acc.length - (intOf jv).toNat)
          case atStart => exact ⟨0, by omega, rfl, by simp⟩
          case round =>
            obtain ⟨j, hj, rfl, rfl⟩ := hrel
            by_cases hjl : j < acc.length
            · obtain ⟨ea', ecap', hev, h | ⟨b1, ha1, hb1, hc1⟩⟩ := R1.out.is
              · subst h; simp at hjl
              cases hev
              subst ha1
              have d0 := hc1 j hjl
              have HT := Lib.hid (mem_take_succ acc hjl x1)
              clear hc1
              generalize acc.getD j 0 = y at *
              cases hd : decide (x1 ∈ acc.take j) with
              | true =>
                go_wp2_with fail
                go_round
                case rel => exact ⟨j + 1, by omega, by go_num, by rw [HT.out, hd]; rfl⟩
                case measure => simp [intOf]; omega
              | false =>
                go_wp2_with fail
                go_round
                case rel => exact ⟨j + 1, by omega, by go_num, by rw [HT.out, hd]; rfl⟩
                case measure => simp [intOf]; omega
            · have htk : acc.take j = acc := List.take_of_length_le (by omega)
              rw [htk]
              by_cases hx1 : x1 ∈ acc
              · have e : stopStep acc (1, x1, x2) = acc := by simp [stopStep, hx1]
                have hd : decide (x1 ∈ acc) = true := by simpa using hx1
                rw [hd]
                go_wp2_with fail
                go_roundw
                case rel => exact ⟨k + 1, by omega, by go_num, by rw [HN.out]; simp, by rw [HS.out, e]; exact R1.out, B1.out⟩
                case measure => simp [intOf]; omega
              · have e : stopStep acc (1, x1, x2) = acc ++ [x1] := by simp [stopStep, hx1]
                have hd : decide (x1 ∈ acc) = false := by simpa using hx1
                rw [hd]
                go_wp2_with (first
                  | (at_builtin; refine wpList_append_own _ rfl (.tmp 54) (.tmp 57) 51 rfl w.heap.size 3 i0 (.int .i64 0) 1 8 Tryd.underlying51 hi hz0 hz1 hz2 rfl (by decide) _ _ _ rfl (IRow.below R1.out (below1 _ _)) ⟨W1.heap.size, 0, none⟩ 1 1 [.int .i64 x1] rfl rfl (one_new _ _ _ rfl) (one_one _) (by unfold maxLen; omega) (by omega) (by simp; omega) ?_; intro v' w2 hown' hgrow _; have B2 := Lib.hid (below_iapp B1.out hws1 R1.out hgrow); have O1 := Lib.hid (irow_snoc hown'); clear hown' hgrow)
                  | go_in)
                go_roundw
                case rel => exact ⟨k + 1, by omega, by go_num, by rw [HN.out]; simp, by rw [HS.out, e]; exact O1.out, B2.out⟩
                case measure => simp [intOf]; omega
        · have hx2b : (x0 != 1) = true := by rw [bne_iff_ne]; exact hx2
          have e : stopStep acc (x0, x1, x2) = acc := by simp [stopStep, hx2]
          go_wp2_with fail
          clear c0 c1 c2
          generalize wr.alloc (.cells #[.int .i64 _, .int .i64 _, .int .i64 _] 35) = W1 at *
          generalize wr.heap.size = bp at *
          obtain ⟨⟨m0, m1, m2⟩, n0, n1, n2⟩ := P1.out.cells3
          go_loop [9, 40] (fun sv jv => ∃ j : Nat, j ≤ acc.length ∧ jv = .int .i64 j ∧ sv = .bool true) (fun _ jv => acc.length - (intOf jv).toNat)
          case atStart => exact ⟨0, by omega, rfl, rfl⟩
          case round =>
            obtain ⟨j, hj, rfl, rfl⟩ := hrel
            by_cases hjl : j < acc.length
            · obtain ⟨ea', ecap', hev, h | ⟨b1, ha1, hb1, hc1⟩⟩ := R1.out.is
              · subst h; simp at hjl
              cases hev
              subst ha1
              have d0 := hc1 j hjl
              clear hc1
              go_wp2_with fail
              go_round
              case rel => exact ⟨j + 1, by omega, by go_num, rfl⟩
              case measure => simp [intOf]; omega
            · go_wp2_with fail
              go_roundw
              case rel => exact ⟨k + 1, by omega, by go_num, by rw [HN.out]; simp [hx0], by rw [HS.out, e]; exact R1.out, B1.out⟩
              case measure => simp [intOf]; omega
    · have hkn : k = n := by omega
      have htk : L.take k = L := List.take_of_length_le (by omega)
      rw [htk] at R HLN hcl2
      rw [htk]
      go_wp2_with fail
      refine (stops_any _ L _ (by omega) HO.out (HP.out.below BB.out)).mono ?_
      rintro e w2 ⟨u, rfl, hs, hb⟩
      have S2 := Lib.hid hs
      have R2 := Lib.hid (R.out.is.below hb)
      have P2 := Lib.hid ((HP.out.below BB.out).below hb)
      have B2 := Lib.hid (BB.out.trans (hb.mono hws))
      clear hs hb R BB
      obtain ⟨sa, scap, hsv, hsc⟩ := S2.out
      subst hsv
      have SC := Lib.hid hsc
      clear hsc S2
      generalize hacc : stopsL L = acc at *
      have hne : ((acc.length : Int) != acc.length) = false := by simp
      go_wp2_with fail
      refine (count_any t _ L _ (by omega) P2.out).mono ?_
      rintro e w3 ⟨rfl, hb⟩
      have hne2 : ((countL t L : Int) != countL t L) = false := by simp
      have R3 := Lib.hid (R2.out.below hb)
      have hw2 := hb
      have B3 := Lib.hid (B2.out.trans (hb.mono B2.out.size))
      have HB := Lib.hid hb
      clear hb hw2 R2 B2 P2
      go_wp2_with fail
      go_loopw [76] (fun iv wq => ∃ j : Nat, j ≤ acc.length ∧ iv = .int .i64 j ∧ Below w3.heap.size w3 wq) (fun iv _ => acc.length - (intOf iv).toNat)
      case atStart => exact ⟨0, by omega, rfl, Below.refl _ _⟩
      case round =>
        obtain ⟨j, hj, rfl, hb⟩ := hrel
        have BQ := Lib.hid hb
        clear hb
        by_cases hjl : j < acc.length
        · rcases SC.out with h | ⟨b1, rfl, hb1, hc1⟩
          · subst h; simp at hjl
          obtain ⟨ra, rcap, hrv, h | ⟨b2, ha2, hb2, hc2⟩⟩ := R3.out
          · subst h; simp at hjl
          cases hrv
          subst ha2
          have d1 := (BQ.out.cell (Nat.lt_of_lt_of_le hb1 HB.out.size)).trans ((HB.out.cell hb1).trans (hc1 j hjl))
          have d2 := (BQ.out.cell hb2).trans (hc2 j hjl)
          clear hc1 hc2
          generalize acc.getD j 0 = y at *
          have hyy : (y != y) = false := by simp
          go_wp2_with fail
          go_quiet (fail)
          go_wp2_with fail
          go_roundw
          case rel => exact ⟨j + 1, by omega, by go_num, below_drewN BQ.out _⟩
          case measure => simp [intOf]; omega
        · have B4 := Lib.hid (B3.out.trans (BQ.out.mono B3.out.size))
          go_wp2_with fail
          refine (awake_any _ (HG.out.belowN B4.out HG.out.big)).mono ?_
          rintro e w4 ⟨rfl, hb⟩
          have B5 := Lib.hid (B4.out.trans (hb.mono B4.out.size))
          clear hb
          go_wp2_with fail
          go_ret
          exact ⟨rfl, B5.out⟩
theorem walk (v : Value) (L : List Pk) (t : Int) (w : World) (hp : PS w v L) (ho : PkOk L) (hg : Gl w) : Calls Tryd.prog 9 #[v, .int .i64 t] w (Good w) := by
  by_cases hl : 300 < L.length
  · exact walk_great v L t w hp hl hg
  · exact walk_ok v L t w hp ho hl hg
end Go.Proofs.YtpgcnejofnhhfaaDoor.schedCounts
