/- Statement SchedSplits: the walk through the law for every input. -/
import Derived.Test.YtpgcnejofnhhfaaDoorAwake
import Derived.Test.YtpgcnejofnhhfaaDoorSplit
namespace Go.Proofs.YtpgcnejofnhhfaaDoor.schedSplits
open Go.ChangeShapes Go.WideShapes Go.ChangeAt Go.RowKit Go.Shelf Go.Maps
def Good (w : World) (e : Ending) (w' : World) : Prop := e = .returned (.bool true) ∧ Below w.heap.size w w'
def NoCr (p : List Pk) : Prop := ∀ x ∈ p, x.1 ≠ 2
/-- The parts ps of L, with a crash between each two. -/
def Sp : List Pk → List (List Pk) → Prop
  | _, [] => False
  | L, p :: r => NoCr p ∧ ((r = [] ∧ L = p) ∨ ∃ c L', L = p ++ c :: L' ∧ c.1 = 2 ∧ Sp L' r)
theorem sp_add {L : List Pk} {x : Pk} (hx : x.1 ≠ 2) : ∀ {dn : List (List Pk)} {L : List Pk} {cur : List Pk}, Sp L (dn ++ [cur]) → Sp (L ++ [x]) (dn ++ [cur ++ [x]])
  | [], L, cur, h => by
    obtain ⟨h1, ⟨_, h2⟩ | ⟨c, L', _, _, h3⟩⟩ := h
    · refine ⟨fun y hy => ?_, .inl ⟨rfl, by rw [h2]⟩⟩
      rcases List.mem_append.1 hy with hy | hy
      · exact h1 y hy
      · simp at hy; subst hy; exact hx
    · cases h3
  | p :: r, L, cur, h => by
    obtain ⟨h1, ⟨h2, _⟩ | ⟨c, L', rfl, hc, h3⟩⟩ := h
    · simp at h2
    · exact ⟨h1, .inr ⟨c, L' ++ [x], by simp, hc, sp_add (L := L) hx h3⟩⟩
theorem sp_one : Sp [] [[]] := ⟨fun y hy => by simp at hy, Or.inl ⟨rfl, rfl⟩⟩
theorem sp_crash {x : Pk} (hx : x.1 = 2) : ∀ {dn : List (List Pk)} {L : List Pk} {cur : List Pk}, Sp L (dn ++ [cur]) → Sp (L ++ [x]) (dn ++ [cur] ++ [[]])
  | [], L, cur, h => by
    obtain ⟨h1, ⟨_, h2⟩ | ⟨c, L', _, _, h3⟩⟩ := h
    · exact ⟨h1, .inr ⟨x, [], by rw [h2], hx, sp_one⟩⟩
    · cases h3
  | p :: r, L, cur, h => by
    obtain ⟨h1, ⟨h2, _⟩ | ⟨c, L', rfl, hc, h3⟩⟩ := h
    · simp at h2
    · exact ⟨h1, .inr ⟨c, L' ++ [x], by simp, hc, sp_crash hx h3⟩⟩
theorem sp_go (L : List Pk) : ∀ k, k ≤ L.length → Sp (L.take k) ((splitGo (L.take k)).1 ++ [(splitGo (L.take k)).2])
  | 0, _ => by simp only [List.take_zero]; exact sp_one
  | k + 1, h => by
    have ih := sp_go L k (by omega)
    rw [splitGo_succ L (by omega), take_succ_getD L (by omega)]
    unfold splitStep
    split
    · exact sp_crash (by assumption) ih
    · exact sp_add (L := L) (by assumption) ih
/-- Where part i begins. -/
def off : List (List Pk) → Nat → Nat
  | _, 0 => 0
  | [], _ => 0
  | p :: r, i + 1 => p.length + 1 + off r i
theorem off_succ : ∀ (ps : List (List Pk)) (i : Nat), i < ps.length → off ps (i + 1) = off ps i + (ps.getD i []).length + 1
  | [], i, h => by simp at h
  | p :: r, 0, _ => by cases r <;> simp [off]
  | p :: r, i + 1, h => by
    have := off_succ r i (by simpa using h)
    simp only [off, List.getD_cons_succ]
    rw [show off r (i + 1) = _ from this]
    omega
theorem getD_app_left (a b : List Pk) {i : Nat} (h : i < a.length) : (a ++ b).getD i zPk = a.getD i zPk := by rw [List.getD, List.getD, List.getElem?_append_left h]
theorem getD_app_right (a b : List Pk) (i : Nat) : (a ++ b).getD (a.length + i) zPk = b.getD i zPk := by rw [List.getD, List.getD, List.getElem?_append_right (by omega)]; congr 2; omega
theorem getD_mem {p : List Pk} {j : Nat} (h : j < p.length) : p.getD j zPk ∈ p := by rw [List.getD, List.getElem?_eq_getElem h]; exact List.getElem_mem h
theorem sp_at : ∀ (ps : List (List Pk)) (L : List Pk), Sp L ps → off ps ps.length = L.length + 1 ∧ ∀ i, i < ps.length →
    (∀ j, j < (ps.getD i []).length → off ps i + j < L.length ∧ L.getD (off ps i + j) zPk = (ps.getD i []).getD j zPk ∧ ((ps.getD i []).getD j zPk).1 ≠ 2) ∧
    (0 < i → 1 ≤ off ps i ∧ off ps i - 1 < L.length ∧ (L.getD (off ps i - 1) zPk).1 = 2)
  | [], _, h => by cases h
  | p :: r, L, h => by
    obtain ⟨h1, ⟨rfl, rfl⟩ | ⟨c, L', rfl, hc, h3⟩⟩ := h
    · refine ⟨by simp [off], fun i hi => ?_⟩
      obtain rfl : i = 0 := by simpa using hi
      exact ⟨fun j hj => ⟨by simpa [off] using hj, by simp [off], h1 _ (getD_mem hj)⟩, by omega⟩
    · obtain ⟨e1, e2⟩ := sp_at r L' h3
      refine ⟨by simp only [off, List.length_cons, e1]; simp; omega, fun i hi => ?_⟩
      cases i with
      | zero =>
        refine ⟨fun j hj => ?_, by omega⟩
        have hj' : j < p.length := by simpa using hj
        refine ⟨by simp [off]; omega, ?_, h1 _ (getD_mem hj')⟩
        simp only [off, Nat.zero_add, List.getD_cons_zero]
        exact getD_app_left _ _ hj'
      | succ i =>
        obtain ⟨f1, f2⟩ := e2 i (by simpa using hi)
        refine ⟨fun j hj => ?_, fun _ => ?_⟩
        · obtain ⟨g1, g2, g3⟩ := f1 j (by simpa using hj)
          refine ⟨by simp only [off]; simp; omega, ?_, by simpa using g3⟩
          simp only [off, List.getD_cons_succ]
          rw [show p.length + 1 + off r i + j = p.length + (off r i + j + 1) by omega, getD_app_right, ← g2]
          rfl
        · refine ⟨by simp only [off]; omega, ?_, ?_⟩
          · simp only [off]
            cases i with
            | zero => have : off r 0 = 0 := by cases r <;> rfl
                      rw [this]; simp
            | succ i =>
              obtain ⟨g0, g1, g2⟩ := f2 (by omega)
              simp; omega
          · simp only [off]
            cases i with
            | zero =>
              have : off r 0 = 0 := by cases r <;> rfl
              rw [this, show p.length + 1 + 0 - 1 = p.length + 0 by omega, getD_app_right]
              exact hc
            | succ i =>
              obtain ⟨g0, g1, g2⟩ := f2 (by omega)
              rw [show p.length + 1 + off r (i + 1) - 1 = p.length + (off r (i + 1) - 1 + 1) by omega, getD_app_right]
              exact g2
/-- The slice pv of slices reads as the parts ps. -/
def PIn (w : World) (pv : Value) (ps : List (List Pk)) : Prop :=
  ∃ pg cap, pv = .slice (some ⟨pg, 0, none⟩) ps.length cap ∧ pg < w.heap.size ∧ ∀ i, i < ps.length → ∃ v, w.cell? ⟨pg, i, none⟩ = some v ∧ PS w v (ps.getD i [])
theorem pin_of {B : Nat} {w : World} {pv : Value} {dv : List Value} {cv : Value} {dn : List (List Pk)} {cur : List Pk} (h : Parts B w pv dv cv dn cur) : PIn w pv (dn ++ [cur]) := by
  obtain ⟨pg, pcap, rfl⟩ := ownsRow_succ h.r
  refine ⟨pg, pcap, by simp [h.l], (World.ownsRow.lt h.r pg rfl).2, fun i hi => ?_⟩
  have hl := h.l
  rcases Nat.lt_or_ge i dv.length with hd | hd
  · have hv : dv[i]? = some dv[i] := List.getElem?_eq_getElem hd
    refine ⟨dv[i], (row_cell h.r (by rw [List.getElem?_append_left hd]; exact hv)).1, ?_⟩
    have := (h.d i _ hv).1.ps
    rwa [List.getD_eq_getElem?_getD, List.getElem?_append_left (by omega), ← List.getD_eq_getElem?_getD]
  · obtain rfl : i = dv.length := by simp at hi; omega
    refine ⟨cv, (row_cell h.r (by simp)).1, ?_⟩
    rw [List.getD_eq_getElem?_getD, hl, List.getElem?_append_right (Nat.le_refl _), Nat.sub_self]
    exact h.c.ps
theorem walk_great (v : Value) (L : List Pk) (w : World) (hp : PS w v L) (hl : 300 < L.length) (hg : Gl w) : Calls Tryd.prog 8 #[v] w (Good w) := by
  have HA := Lib.hid (awake_any w hg)
  obtain ⟨a, cap, rfl, -⟩ := hp
  have h1 : (300 : Int) < L.length := by omega
  clear hg
  go_enter Tryd.func8, Tryd.ntmps8
  go_wp2_with fail
  refine HA.out.mono ?_
  rintro e w' ⟨rfl, hb⟩
  have BB := Lib.hid hb
  clear hb HA
  go_wp2_with fail
  go_ret
  exact ⟨rfl, BB.out⟩
set_option maxRecDepth 100000 in
set_option maxHeartbeats 3200000 in
theorem walk_ok (v : Value) (L : List Pk) (w : World) (hp : PS w v L) (hl : ¬ 300 < L.length) (hg : Gl w) : Calls Tryd.prog 8 #[v] w (Good w) := by
  have HP := Lib.hid hp
  obtain ⟨a, cap, rfl, h⟩ := hp
  have H := Lib.hid h
  have HG := Lib.hid hg
  have qN := neqP
  have gP := guardP
  clear h hg
  obtain ⟨n, hn⟩ : ∃ n, L.length = n := ⟨_, rfl⟩
  have HSP : Hid (Sp L ((splitGo L).1 ++ [(splitGo L).2])) := Lib.hid (by have := sp_go L L.length (Nat.le_refl _); rwa [List.take_length] at this)
  have HLM := splitGo_len L L.length (Nat.le_refl _)
  rw [List.take_length] at HLM
  have hps : ((splitGo L).1 ++ [(splitGo L).2]).length ≤ 301 ∧ 1 ≤ ((splitGo L).1 ++ [(splitGo L).2]).length := by simp; omega
  clear HLM
  rw [hn] at HP ⊢
  rw [hn] at hl
  have hl1 : ¬ (300 : Int) < n := by omega
  go_enter Tryd.func8, Tryd.ntmps8
  go_wp2_with fail
  refine (parts_any _ L _ (by omega) HP.out).mono ?_
  rintro e w1 ⟨pv, dv, cv, rfl, hparts, hb⟩
  have PI := Lib.hid (pin_of hparts)
  have B0 := Lib.hid hb
  clear hparts hb HP dv cv
  generalize (splitGo L).1 ++ [(splitGo L).2] = ps at *
  obtain ⟨pg, pcap, hpv, hpg, hpc⟩ := PI.out
  subst hpv
  have HPC := Lib.hid hpc
  clear PI hpc
  obtain ⟨hm1, hm2⟩ := hps
  obtain ⟨hat1, hat2⟩ := sp_at ps L HSP.out
  have HA := Lib.hid hat2
  rw [hn] at hat1
  have HO := Lib.hid (off_succ ps)
  clear hat2 HSP
  obtain ⟨m, hm⟩ : ∃ m, ps.length = m := ⟨_, rfl⟩
  rw [hm] at hm1 hm2 hat1 HPC HA HO ⊢
  have H0 : Hid (off ps 0 = 0) := Lib.hid (by cases ps <;> rfl)
  go_wp2_with fail
  go_loopw [4, 17] (fun av iv wr => ∃ i : Nat, i ≤ m ∧ iv = .int .i64 i ∧ av = .int .i64 ((off ps i - 1 : Nat) : Int) ∧ Below w1.heap.size w1 wr) (fun _ iv _ => m - (intOf iv).toNat)
  case atStart => exact ⟨0, by omega, rfl, by rw [H0.out]; rfl, Below.refl _ _⟩
  case round =>
    obtain ⟨i, him, rfl, rfl, hb⟩ := hrel
    have BB := Lib.hid hb
    clear hb
    by_cases hlt : i < m
    · obtain ⟨pi, c0, hpi⟩ := HPC.out i hlt
      rw [← BB.out.cell hpg] at c0
      obtain ⟨A1', A2'⟩ := HA.out i hlt
      have A1 := Lib.hid A1'
      have HSU := Lib.hid (HO.out i hlt)
      clear A1'
      have hpl : (ps.getD i []).length ≤ 300 := by
        rcases Nat.eq_zero_or_pos (ps.getD i []).length with h | h
        · omega
        · have := (A1.out ((ps.getD i []).length - 1) (by omega)).1; omega
      generalize ps.getD i [] = p at *
      obtain ⟨pa, pc, hpiv, hpp⟩ := hpi
      subst hpiv
      have PP := Lib.hid hpp
      clear hpp
      rcases Nat.eq_zero_or_pos i with hi0 | hi0
      · have ho0 : off ps i = 0 := by rw [hi0]; exact H0.out
        have hi1 : ¬ (0 : Int) < (i : Int) := by omega
        clear A2' hi0
        rw [ho0] at A1 HSU ⊢
        clear ho0
        go_wp2_with fail
        clear c0
        go_loopw [4, 40] (fun av jv wq => ∃ j : Nat, j ≤ p.length ∧ jv = .int .i64 j ∧ av = .int .i64 (j : Int) ∧ Below w1.heap.size w1 wq) (fun _ jv _ => p.length - (intOf jv).toNat)
        case atStart => exact ⟨0, by omega, rfl, rfl, BB.out⟩
        case round =>
          obtain ⟨j, hj, rfl, rfl, hb⟩ := hrel
          have BQ := Lib.hid hb
          clear hb
          by_cases hjl : j < p.length
          · obtain ⟨f1, f2, f3⟩ := A1.out j hjl
            rw [Nat.zero_add] at f1 f2
            rcases PP.out with h | ⟨b2, of2, rfl, hb2, hc2⟩
            · subst h; simp at hjl
            rcases H.out with h | ⟨b0, of0, rfl, hb0, hc0⟩
            · subst h; simp at f1
            obtain ⟨c0, c1, c2⟩ := hc2 j hjl
            rw [← BQ.out.cell hb2] at c0 c1 c2
            obtain ⟨d0, d1, d2⟩ := hc0 j f1
            rw [f2] at d0 d1 d2
            replace d0 := (BQ.out.cell (Nat.lt_of_lt_of_le hb0 B0.out.size)).trans ((B0.out.cell hb0).trans d0)
            replace d1 := (BQ.out.cell (Nat.lt_of_lt_of_le hb0 B0.out.size)).trans ((B0.out.cell hb0).trans d1)
            replace d2 := (BQ.out.cell (Nat.lt_of_lt_of_le hb0 B0.out.size)).trans ((B0.out.cell hb0).trans d2)
            clear hc2 hc0 f2
            have hf3 : ((p.getD j zPk).1 == 2) = false := by rw [beq_eq_false_iff_ne]; exact f3
            clear f3
            generalize (p.getD j zPk).1 = x0 at *
            generalize (p.getD j zPk).2.1 = x1 at *
            generalize (p.getD j zPk).2.2 = x2 at *
            have he : eqP (x0, x1, x2) (x0, x1, x2) = true := (eqP_iff _ _).2 rfl
            have hf1 : ¬ (n : Int) ≤ (j : Int) := by omega
            have hf4 : (j : Int) < (n : Int) := by omega
            have hf5 : j < n := by omega
            have hf6 : ¬ n ≤ j := by omega
            have hf7 : ¬ (n : Int) ≤ (j : Int) := by omega
            have hf8 : (j : Int) < (n : Int) := by omega
            have hf9 : decide ((n : Int) ≤ (j : Int)) = false := by simp; omega
            have hbs := below1 wr (.cells #[.int .i64 x0, .int .i64 x1, .int .i64 x2] 35)
            have bB := Box.new wr #[.int .i64 x0, .int .i64 x1, .int .i64 x2] 35 rfl
            have B5 := Lib.hid (BQ.out.trans (hbs.mono BQ.out.size))
            have e0 := (hbs.cell (Nat.lt_of_lt_of_le (Nat.lt_of_lt_of_le hb0 B0.out.size) BQ.out.size)).trans d0
            have e1 := (hbs.cell (Nat.lt_of_lt_of_le (Nat.lt_of_lt_of_le hb0 B0.out.size) BQ.out.size)).trans d1
            have e2 := (hbs.cell (Nat.lt_of_lt_of_le (Nat.lt_of_lt_of_le hb0 B0.out.size) BQ.out.size)).trans d2
            go_wp2_with fail
            clear d0 d1 d2 c0 c1 c2 hbs
            obtain ⟨⟨m0, m1, m2⟩, -⟩ := bB.cells3
            go_quiet (fail)
            go_wp2_with fail
            go_roundw
            case rel => exact ⟨j + 1, by omega, by go_num, by first | go_num | congr 1, below_drewN B5.out _⟩
            case measure => simp [intOf]; omega
          · obtain rfl : j = p.length := by omega
            go_wp2_with fail
            go_roundw
            case rel => exact ⟨i + 1, by omega, by go_num, by rw [HSU.out, show 0 + p.length + 1 - 1 = p.length by omega], BQ.out⟩
            case measure => simp [intOf]; omega
      · obtain ⟨g0, g1, g2⟩ := A2' hi0
        generalize off ps i = o at *
        have hi1 : (0 : Int) < (i : Int) := by omega
        rcases H.out with h | ⟨b0, of0, ha0, hb0, hc0⟩
        · subst h; simp at g1
        subst ha0
        obtain ⟨d0, d1, d2⟩ := hc0 (o - 1) g1
        rw [g2] at d0
        replace d0 := (BB.out.cell (Nat.lt_of_lt_of_le hb0 B0.out.size)).trans ((B0.out.cell hb0).trans d0)
        clear hc0 d1 d2 g2
        have h7 : ¬ (n : Int) ≤ ((o - 1 : Nat) : Int) := by omega
        have h8 : ((o - 1 : Nat) : Int) < (n : Int) := by omega
        have h9 : ((o - 1 : Nat) : Int) + 1 = (o : Int) := by omega
        have h6 : (0 : Int) ≤ ((o - 1 : Nat) : Int) := by omega
        obtain ⟨o1, ho1⟩ : ∃ x : Nat, o - 1 = x := ⟨_, rfl⟩
        rw [ho1] at d0 h7 h8 h9 h6 ⊢
        have HO1 := Lib.hid ho1
        clear ho1
        go_wp2_with fail
        clear c0 d0
        go_loopw [4, 40] (fun av jv wq => ∃ j : Nat, j ≤ p.length ∧ jv = .int .i64 j ∧ av = .int .i64 ((o + j : Nat) : Int) ∧ Below w1.heap.size w1 wq) (fun _ jv _ => p.length - (intOf jv).toNat)
        case atStart => exact ⟨0, by omega, rfl, by congr 1, BB.out⟩
        case round =>
          obtain ⟨j, hj, rfl, rfl, hb⟩ := hrel
          have BQ := Lib.hid hb
          clear hb
          by_cases hjl : j < p.length
          · obtain ⟨f1, f2, f3⟩ := A1.out j hjl
            rcases PP.out with h | ⟨b2, of2, rfl, hb2, hc2⟩
            · subst h; simp at hjl
            rcases H.out with h | ⟨b9, of9, ha9, hb9, hc0⟩
            · subst h; simp at f1
            cases ha9
            obtain ⟨c0, c1, c2⟩ := hc2 j hjl
            rw [← BQ.out.cell hb2] at c0 c1 c2
            obtain ⟨d0, d1, d2⟩ := hc0 (o + j) f1
            rw [f2] at d0 d1 d2
            replace d0 := (BQ.out.cell (Nat.lt_of_lt_of_le hb0 B0.out.size)).trans ((B0.out.cell hb0).trans d0)
            replace d1 := (BQ.out.cell (Nat.lt_of_lt_of_le hb0 B0.out.size)).trans ((B0.out.cell hb0).trans d1)
            replace d2 := (BQ.out.cell (Nat.lt_of_lt_of_le hb0 B0.out.size)).trans ((B0.out.cell hb0).trans d2)
            clear hc2 hc0 f2
            have hf3 : ((p.getD j zPk).1 == 2) = false := by rw [beq_eq_false_iff_ne]; exact f3
            clear f3
            generalize (p.getD j zPk).1 = x0 at *
            generalize (p.getD j zPk).2.1 = x1 at *
            generalize (p.getD j zPk).2.2 = x2 at *
            have he : eqP (x0, x1, x2) (x0, x1, x2) = true := (eqP_iff _ _).2 rfl
            have hf1 : ¬ (n : Int) ≤ ((o + j : Nat) : Int) := by omega
            have hf4 : ((o + j : Nat) : Int) < (n : Int) := by omega
            have hf5 : o + j < n := by omega
            have hf6 : ¬ n ≤ o + j := by omega
            have hf7 : ¬ (n : Int) ≤ (o : Int) + (j : Int) := by omega
            have hf8 : (o : Int) + (j : Int) < (n : Int) := by omega
            have hf9 : decide ((n : Int) ≤ (o : Int) + (j : Int)) = false := by simp; omega
            have hbs := below1 wr (.cells #[.int .i64 x0, .int .i64 x1, .int .i64 x2] 35)
            have bB := Box.new wr #[.int .i64 x0, .int .i64 x1, .int .i64 x2] 35 rfl
            have B5 := Lib.hid (BQ.out.trans (hbs.mono BQ.out.size))
            have e0 := (hbs.cell (Nat.lt_of_lt_of_le (Nat.lt_of_lt_of_le hb0 B0.out.size) BQ.out.size)).trans d0
            have e1 := (hbs.cell (Nat.lt_of_lt_of_le (Nat.lt_of_lt_of_le hb0 B0.out.size) BQ.out.size)).trans d1
            have e2 := (hbs.cell (Nat.lt_of_lt_of_le (Nat.lt_of_lt_of_le hb0 B0.out.size) BQ.out.size)).trans d2
            go_wp2_with fail
            clear d0 d1 d2 c0 c1 c2 hbs
            obtain ⟨⟨m0, m1, m2⟩, -⟩ := bB.cells3
            go_quiet (fail)
            go_wp2_with fail
            go_roundw
            case rel => exact ⟨j + 1, by omega, by go_num, by first | go_num | congr 1, below_drewN B5.out _⟩
            case measure => simp [intOf]; omega
          · obtain rfl : j = p.length := by omega
            go_wp2_with fail
            go_roundw
            case rel => exact ⟨i + 1, by omega, by go_num, by rw [HSU.out]; congr 1, BQ.out⟩
            case measure => simp [intOf]; omega
    · obtain rfl : i = m := by omega
      rw [hat1]
      have hnn : ((n + 1 - 1 : Nat) : Int) = n := by omega
      rw [hnn]
      have hmp : (0 : Int) < (i : Int) := by omega
      go_wp2_with fail
      refine (awake_any _ (HG.out.belowN (B0.out.trans (BB.out.mono B0.out.size)) HG.out.big)).mono ?_
      rintro e w4 ⟨rfl, hb⟩
      have B5 := Lib.hid ((B0.out.trans (BB.out.mono B0.out.size)).trans (hb.mono (Nat.le_trans B0.out.size BB.out.size)))
      clear hb
      go_wp2_with fail
      go_ret
      exact ⟨rfl, B5.out⟩
theorem walk (v : Value) (L : List Pk) (w : World) (hp : PS w v L) (_ho : PkOk L) (hg : Gl w) : Calls Tryd.prog 8 #[v] w (Good w) := by
  by_cases hl : 300 < L.length
  · exact walk_great v L w hp hl hg
  · exact walk_ok v L w hp hl hg
end Go.Proofs.YtpgcnejofnhhfaaDoor.schedSplits
