/- The reference's Right. -/
import Derived.Test.YtfegeahieajmkaaDoorDsPlain
import Derived.Deep.DeepCutAuto
namespace Go.Proofs.YtfegeahieajmkaaDoor
open Go.ChangeShapes Go.WideShapes Go.ChangeAt Go.RowKit Go.Maps
open Lay (startL checkI placeI mayI sizeI Ok starts checkI_ok)
/-- One entry is right behind the one ahead of it. -/
def right1 (L : List En) (i : Nat) : Bool := decide (chk L[i]! = 0) && (decide (i = 0) || decide (L[i - 1]!.1 < L[i]!.1))
/-- What the reference's Right answers. -/
def rightB (L : List En) : Bool := (List.range L.length).all (right1 L) && (decide (1 ≤ L.length) && decide (L.length ≤ 32))
theorem right_yes {L : List En} (h : ∀ i, i < L.length → right1 L i = true) : (List.range L.length).all (right1 L) = true := by
  rw [List.all_eq_true]
  exact fun i hi => h i (List.mem_range.1 hi)
theorem right_no {L : List En} {i : Nat} (hi : i < L.length) (h : right1 L i = false) : (List.range L.length).all (right1 L) = false := by
  rw [List.all_eq_false]
  exact ⟨i, List.mem_range.2 hi, by rw [h]; decide⟩
theorem chkFrom_zero (P L : List En) : chkFrom P L = 0 ↔ (∀ i, i < L.length → chk L[i]! = 0 ∧ fnd L[i]!.1 (P ++ L.take i) < 0) := by
  induction L generalizing P with
  | nil => simp [chkFrom]
  | cons e r ih =>
    rw [chkFrom]
    constructor
    · intro h
      by_cases h1 : chk e = 0
      · rw [if_neg (by simp [h1])] at h
        by_cases h2 : 0 ≤ fnd e.1 P
        · rw [if_pos h2] at h; cases h
        · rw [if_neg h2] at h
          intro i hi
          cases i with
          | zero => refine ⟨h1, ?_⟩; rw [List.take_zero, List.append_nil]; exact Int.not_le.1 h2
          | succ i =>
            have := (ih (P ++ [e])).1 h i (by simpa using hi)
            rw [List.take_succ_cons, ← List.append_cons] at *
            exact this
      · rw [if_pos h1] at h; exact absurd h h1
    · intro h
      have h0 := h 0 (by simp)
      rw [List.take_zero, List.append_nil] at h0
      rw [if_neg (by have := h0.1; simpa using this), if_neg (by have := h0.2; simp at this; omega)]
      refine (ih (P ++ [e])).2 fun i hi => ?_
      have := h (i + 1) (by simpa using hi)
      rw [List.take_succ_cons] at this
      rw [List.append_assoc]
      exact this
theorem fnd_asc {L : List En} (h : ascB L = true) {i : Nat} (hi : i < L.length) : fnd L[i]!.1 (L.take i) = -1 := by
  refine fnd_no fun j hj => ?_
  rw [List.length_take] at hj
  have hji : j < i := by omega
  have := ascB_lt h hji hi
  have e : (L.take i)[j]! = L[j]! := by
    rw [getElem!_pos _ j (by rw [List.length_take]; omega), getElem!_pos L j (by omega)]; simp
  rw [e]; omega
/-- Entries are right when they are valid and their locations increase. -/
theorem right_iff (L : List En) : rightB L = (decide (chkL L = 0) && ascB L) := by
  rw [Bool.eq_iff_iff]
  constructor
  · intro h
    unfold rightB at h
    simp only [Bool.and_eq_true, decide_eq_true_eq] at h
    obtain ⟨h1, h2, h3⟩ := h
    rw [List.all_eq_true] at h1
    have hr : ∀ i, i < L.length → right1 L i = true := fun i hi => h1 i (List.mem_range.2 hi)
    have ha : ascB L = true := ascB_yes fun i h0 hi => by
      have := hr i hi
      unfold right1 at this
      simp only [Bool.and_eq_true, Bool.or_eq_true, decide_eq_true_eq] at this
      rcases this.2 with h | h
      · omega
      · exact h
    rw [ha, Bool.and_true, decide_eq_true_eq]
    unfold chkL
    rw [if_neg (by omega), if_neg (by omega)]
    refine (chkFrom_zero [] L).2 fun i hi => ?_
    have := hr i hi
    unfold right1 at this
    simp only [Bool.and_eq_true, decide_eq_true_eq] at this
    refine ⟨this.1, ?_⟩
    rw [List.nil_append, fnd_asc ha hi]; omega
  · intro h
    simp only [Bool.and_eq_true, decide_eq_true_eq] at h
    obtain ⟨h1, ha⟩ := h
    unfold chkL at h1
    by_cases h0 : L.length = 0
    · rw [if_pos h0] at h1; cases h1
    rw [if_neg h0] at h1
    by_cases h2 : 32 < L.length
    · rw [if_pos h2] at h1; cases h1
    rw [if_neg h2] at h1
    unfold rightB
    simp only [Bool.and_eq_true, decide_eq_true_eq]
    refine ⟨right_yes fun i hi => ?_, by omega, by omega⟩
    have := (chkFrom_zero [] L).1 h1 i hi
    unfold right1
    simp only [Bool.and_eq_true, Bool.or_eq_true, decide_eq_true_eq]
    refine ⟨this.1, ?_⟩
    rcases Nat.eq_zero_or_pos i with h | h
    · exact .inl h
    · exact .inr (ascB_at ha h hi)
set_option maxRecDepth 100000 in
set_option maxHeartbeats 6400000 in
theorem rright_any (v : Value) (L : List En) (w : World) (hv : ES w v L) (hl : L.length ≤ 1000) : Calls Tryd.prog 45 #[v] w fun e w' => e = .returned (.bool (rightB L)) ∧ Below w.heap.size w w' := by
  have HV := Lib.hid hv
  obtain ⟨a1, cp, rfl, hcap⟩ := hv.form
  obtain ⟨n, hn⟩ : ∃ n, L.length = n := ⟨_, rfl⟩
  rw [hn] at HV hl hcap ⊢
  have HN := Lib.hid hn
  clear hv hn
  obtain ⟨r, hr⟩ : ∃ r, rightB L = r := ⟨_, rfl⟩
  rw [hr]
  have HR := Lib.hid hr
  unfold rightB at HR
  rw [HN.out] at HR
  clear hr
  go_enter Tryd.func45, Tryd.ntmps45
  go_wp2_with fail
  go_loopw [3] (fun iv wr => ∃ k : Nat, k ≤ n ∧ iv = .int .i64 k ∧ (∀ i, i < k → right1 L i = true) ∧ Below w.heap.size w wr) (fun iv _ => n - (intOf iv).toNat)
  case atStart => exact ⟨0, by omega, rfl, fun i h => by omega, Below.refl _ _⟩
  case round =>
    obtain ⟨k, hk, rfl, hno, hb⟩ := hrel
    have BB := Lib.hid hb
    have NO := Lib.hid hno
    clear hb hno
    by_cases hlt : k < n
    · obtain ⟨b0, off, rfl, hbl, hln, hc⟩ := HV.out.addr hlt
      obtain ⟨c0, c1, c2, c3, c4, c5⟩ := en_cells hc (by rw [hln]; exact hlt)
      rw [← BB.out.cell (p := ⟨b0, _, none⟩) hbl] at c0 c1 c2 c3 c4 c5
      have P0 : Hid (∀ W', Below w.heap.size w W' → 0 < k → W'.cell? ⟨b0, off + (k - 1) * 6, none⟩ = some (.int .i64 (L[k - 1]!).1)) := Lib.hid (fun W' hW h => (hW.cell (p := ⟨b0, _, none⟩) hbl).trans (en_cells hc (k := k - 1) (by rw [hln]; omega)).1)
      clear hc hln hbl
      have RN := Lib.hid (fun (h : right1 L k = false) => show r = false by rw [← HR.out, ← HN.out, right_no (by rw [HN.out]; exact hlt) h]; rfl)
      have R1 := Lib.hid (show right1 L k = (decide (chk L[k]! = 0) && (decide (k = 0) || decide (L[k - 1]!.1 < L[k]!.1))) from rfl)
      obtain ⟨y, hy⟩ : ∃ y, L[k]! = y := ⟨_, rfl⟩
      rw [hy] at c0 c1 c2 c3 c4 c5 R1
      clear hy
      obtain ⟨e0, ⟨e1, e2, e3⟩, e4, e5⟩ := y
      unfold chk at R1
      simp only at c0 c1 c2 c3 c4 c5 R1
      go_upto_region 5 with fail
      have EB := Lib.hid (Box.new wr #[.int .i64 e0, .int .i64 e1, .int .u32 e2, .int .u32 e3, .int .i64 e4, .bool e5] 49 rfl)
      have B1 := Lib.hid (below1 wr (.cells #[.int .i64 e0, .int .i64 e1, .int .u32 e2, .int .u32 e3, .int .i64 e4, .bool e5] 49))
      replace BB := Lib.hid (BB.out.trans (B1.out.mono BB.out.size))
      clear c0 c1 c2 c3 c4 c5 B1
      generalize wr.alloc (.cells #[.int .i64 e0, .int .i64 e1, .int .u32 e2, .int .u32 e3, .int .i64 e4, .bool e5] 49) = W3 at *
      generalize wr.heap.size = p at *
      have z0 := EB.out.cell 0
      have z1 := EB.out.cell 1
      have z2 := EB.out.cell 2
      have z3 := EB.out.cell 3
      have z4 := EB.out.cell 4
      have z5 := EB.out.cell 5
      simp at z0 z1 z2 z3 z4 z5
      rcases Nat.eq_zero_or_pos k with rfl | hk0
      · skip
        by_cases h1 : e0 < 0
        · have d1 : decide (e0 < 0) = true := decide_eq_true h1
          have e := RN.out (by rw [R1.out]; simp [h1])
          subst e
          clear RN R1
          go_quiet (fail)
          go_wp2_with fail
          go_ret
          exact ⟨rfl, BB.out.trans (below_drewN (Below.refl _ _) _)⟩
        have d1 : decide (e0 < 0) = false := decide_eq_false h1
        by_cases h2 : 4096 ≤ e0
        · have d2 : decide (4096 ≤ e0) = true := decide_eq_true h2
          have e := RN.out (by rw [R1.out]; simp [h2])
          subst e
          clear RN R1
          go_quiet (fail)
          go_wp2_with fail
          go_ret
          exact ⟨rfl, BB.out.trans (below_drewN (Below.refl _ _) _)⟩
        have d2 : decide (4096 ≤ e0) = false := decide_eq_false h2
        have n1 : ¬ (e0 < 0 ∨ 4096 ≤ e0) := by omega
        rw [if_neg n1] at R1
        clear n1
        by_cases h4 : e3 = 0
        case neg =>
          have d4 : (e3 != 0) = true := by rw [bne_iff_ne]; exact h4
          rw [if_pos h4] at R1
          have e := RN.out (by rw [R1.out]; simp)
          subst e
          clear RN R1
          go_quiet (fail)
          go_wp2_with fail
          go_ret
          exact ⟨rfl, BB.out.trans (below_drewN (Below.refl _ _) _)⟩
        have d4 : (e3 != 0) = false := by rw [bne_eq_false_iff_eq]; exact h4
        rw [if_neg (by simp [h4])] at R1
        cases e5 with
        | true =>
          by_cases h5 : e2 = 4294967295
          · have d5 : (e2 == 4294967295) = true := by rw [beq_iff_eq]; exact h5
            have e := RN.out (by rw [R1.out]; simp [h5])
            subst e
            clear RN R1
            go_quiet (fail)
            go_wp2_with fail
            go_ret
            exact ⟨rfl, BB.out.trans (below_drewN (Below.refl _ _) _)⟩
          have d5 : (e2 == 4294967295) = false := by rw [beq_eq_false_iff_ne]; exact h5
          have e : right1 L (0) = true := by rw [R1.out]; simp [h5]
          clear RN R1
          go_quiet (fail)
          go_wp2_with fail
          go_roundw
          case rel =>
            refine ⟨0 + 1, by omega, by go_num, fun i h => ?_, BB.out.trans (below_drewN (Below.refl _ _) _)⟩
            by_cases e2 : i = 0
            · subst e2; exact e
            · exact NO.out i (by omega)
          case measure => simp [intOf]; omega
        | false =>
          by_cases h5 : e4 = e1
          case neg =>
            have d5 : (e4 != e1) = true := by rw [bne_iff_ne]; exact h5
            have e := RN.out (by rw [R1.out]; simp [h5])
            subst e
            clear RN R1
            go_quiet (fail)
            go_wp2_with fail
            go_ret
            exact ⟨rfl, BB.out.trans (below_drewN (Below.refl _ _) _)⟩
          have d5 : (e4 != e1) = false := by rw [bne_eq_false_iff_eq]; exact h5
          have e : right1 L (0) = true := by rw [R1.out]; simp [h5]
          clear RN R1
          go_quiet (fail)
          go_wp2_with fail
          go_roundw
          case rel =>
            refine ⟨0 + 1, by omega, by go_num, fun i h => ?_, BB.out.trans (below_drewN (Below.refl _ _) _)⟩
            by_cases e2 : i = 0
            · subst e2; exact e
            · exact NO.out i (by omega)
          case measure => simp [intOf]; omega
      · have zp := P0.out _ BB.out hk0
        obtain ⟨m, rfl⟩ : ∃ m, k = m + 1 := ⟨k - 1, by omega⟩
        simp only [Nat.add_sub_cancel] at zp
        rw [Nat.add_sub_cancel] at R1
        have wm : IntKind.i64.wrap (m : Int) = m := IntWalk.i64_in _ (by omega)
        have hm1 : m < n := by omega
        have hm2 : (0 : Int) < (m : Int) + 1 := by omega
        obtain ⟨pv, hpv⟩ : ∃ x, (L[m]!).1 = x := ⟨_, rfl⟩
        rw [hpv] at zp R1
        clear hpv
        by_cases h1 : e0 < 0
        · have d1 : decide (e0 < 0) = true := decide_eq_true h1
          have e := RN.out (by rw [R1.out]; simp [h1])
          subst e
          clear RN R1
          go_quiet (fail)
          go_wp2_with fail
          go_ret
          exact ⟨rfl, BB.out.trans (below_drewN (Below.refl _ _) _)⟩
        have d1 : decide (e0 < 0) = false := decide_eq_false h1
        by_cases h2 : 4096 ≤ e0
        · have d2 : decide (4096 ≤ e0) = true := decide_eq_true h2
          have e := RN.out (by rw [R1.out]; simp [h2])
          subst e
          clear RN R1
          go_quiet (fail)
          go_wp2_with fail
          go_ret
          exact ⟨rfl, BB.out.trans (below_drewN (Below.refl _ _) _)⟩
        have d2 : decide (4096 ≤ e0) = false := decide_eq_false h2
        have n1 : ¬ (e0 < 0 ∨ 4096 ≤ e0) := by omega
        rw [if_neg n1] at R1
        clear n1
        by_cases h3 : e0 ≤ pv
        · have d3 : decide (e0 ≤ pv) = true := decide_eq_true h3
          have h3' : ¬ pv < e0 := by omega
          have e := RN.out (by rw [R1.out]; simp [h3'])
          subst e
          clear RN R1
          go_quiet (fail)
          go_wp2_with fail
          go_ret
          exact ⟨rfl, BB.out.trans (below_drewN (Below.refl _ _) _)⟩
        have d3 : decide (e0 ≤ pv) = false := decide_eq_false h3
        have h3' : pv < e0 := by omega
        by_cases h4 : e3 = 0
        case neg =>
          have d4 : (e3 != 0) = true := by rw [bne_iff_ne]; exact h4
          rw [if_pos h4] at R1
          have e := RN.out (by rw [R1.out]; simp)
          subst e
          clear RN R1
          go_quiet (fail)
          go_wp2_with fail
          go_ret
          exact ⟨rfl, BB.out.trans (below_drewN (Below.refl _ _) _)⟩
        have d4 : (e3 != 0) = false := by rw [bne_eq_false_iff_eq]; exact h4
        rw [if_neg (by simp [h4])] at R1
        cases e5 with
        | true =>
          by_cases h5 : e2 = 4294967295
          · have d5 : (e2 == 4294967295) = true := by rw [beq_iff_eq]; exact h5
            have e := RN.out (by rw [R1.out]; simp [h5])
            subst e
            clear RN R1
            go_quiet (fail)
            go_wp2_with fail
            go_ret
            exact ⟨rfl, BB.out.trans (below_drewN (Below.refl _ _) _)⟩
          have d5 : (e2 == 4294967295) = false := by rw [beq_eq_false_iff_ne]; exact h5
          have e : right1 L (m + 1) = true := by rw [R1.out]; simp [h3', h5]
          clear RN R1
          go_quiet (fail)
          go_wp2_with fail
          go_roundw
          case rel =>
            refine ⟨m + 1 + 1, by omega, by go_num, fun i h => ?_, BB.out.trans (below_drewN (Below.refl _ _) _)⟩
            by_cases e2 : i = m + 1
            · subst e2; exact e
            · exact NO.out i (by omega)
          case measure => simp [intOf]; omega
        | false =>
          by_cases h5 : e4 = e1
          case neg =>
            have d5 : (e4 != e1) = true := by rw [bne_iff_ne]; exact h5
            have e := RN.out (by rw [R1.out]; simp [h5])
            subst e
            clear RN R1
            go_quiet (fail)
            go_wp2_with fail
            go_ret
            exact ⟨rfl, BB.out.trans (below_drewN (Below.refl _ _) _)⟩
          have d5 : (e4 != e1) = false := by rw [bne_eq_false_iff_eq]; exact h5
          have e : right1 L (m + 1) = true := by rw [R1.out]; simp [h3', h5]
          clear RN R1
          go_quiet (fail)
          go_wp2_with fail
          go_roundw
          case rel =>
            refine ⟨m + 1 + 1, by omega, by go_num, fun i h => ?_, BB.out.trans (below_drewN (Below.refl _ _) _)⟩
            by_cases e2 : i = m + 1
            · subst e2; exact e
            · exact NO.out i (by omega)
          case measure => simp [intOf]; omega
    · obtain rfl : k = n := by omega
      have e := right_yes (fun i hi => NO.out i (by rw [HN.out] at hi; exact hi))
      rw [HN.out] at e
      rw [e, Bool.true_and] at HR
      clear e NO
      by_cases h1 : 1 ≤ k
      · have h1' : (1 : Int) ≤ (k : Int) := by omega
        rw [decide_eq_true h1, Bool.true_and] at HR
        by_cases h2 : k ≤ 32
        · have h2' : (k : Int) ≤ 32 := by omega
          rw [decide_eq_true h2] at HR
          have e := HR.out
          subst e
          go_wp2_with fail
          go_ret
          exact ⟨rfl, BB.out⟩
        · have h2' : ¬ (k : Int) ≤ 32 := by omega
          rw [decide_eq_false h2] at HR
          have e := HR.out
          subst e
          go_wp2_with fail
          go_ret
          exact ⟨rfl, BB.out⟩
      · have h1' : ¬ (1 : Int) ≤ (k : Int) := by omega
        rw [decide_eq_false h1, Bool.false_and] at HR
        have e := HR.out
        subst e
        go_wp2_with fail
        go_ret
        exact ⟨rfl, BB.out⟩
end Go.Proofs.YtfegeahieajmkaaDoor
