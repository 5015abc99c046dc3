/- First of a layout: the initial words of all locations. -/
import Derived.Test.YtfegeahieajmkaaDoorLayFns2
import Derived.Test.YtfegeahieajmkaaDoorKBase
namespace Go.Proofs.YtfegeahieajmkaaDoor.Lay
open Go.ChangeShapes Go.WideShapes Go.ChangeAt Go.RowKit Go.Maps

/-- The initial value of location i, when k slots and j blocks are done. -/
def fv (T C B k j i : Nat) : Int :=
  if i = 1 then 1 else if startL T C B 4 ≤ i ∧ i < startL T C B 4 + 104 * k ∧ (i - startL T C B 4) % 104 = 0 then 2
  else if startL T C B 6 ≤ i ∧ i < startL T C B 6 + 32 * j ∧ (i - startL T C B 6) % 32 = 0 then 2 else 0
theorem fv_zero (T C B i : Nat) : fv T C B 0 0 i = if i = 1 then 1 else 0 := by
  unfold fv
  by_cases h : i = 1
  · rw [if_pos h, if_pos h]
  · rw [if_neg h, if_neg h, if_neg (by omega), if_neg (by omega)]
theorem fv_slot (T C B k i : Nat) : fv T C B (k + 1) 0 i = if i = startL T C B 4 + 104 * k then 2 else fv T C B k 0 i := by
  have hs := starts T C B
  unfold fv
  by_cases h : i = startL T C B 4 + 104 * k
  · rw [if_pos h, if_neg (by omega), if_pos (by omega)]
  · rw [if_neg h]
    by_cases h1 : i = 1
    · rw [if_pos h1, if_pos h1]
    · rw [if_neg h1, if_neg h1]
      by_cases h2 : startL T C B 4 ≤ i ∧ i < startL T C B 4 + 104 * k ∧ (i - startL T C B 4) % 104 = 0
      · rw [if_pos h2, if_pos (by omega)]
      · rw [if_neg h2, if_neg (by omega)]
theorem fv_block (T C B j i : Nat) : fv T C B T (j + 1) i = if i = startL T C B 6 + 32 * j then 2 else fv T C B T j i := by
  have hs := starts T C B
  unfold fv
  by_cases h : i = startL T C B 6 + 32 * j
  · rw [if_pos h, if_neg (by omega), if_neg (by omega), if_pos (by omega)]
  · rw [if_neg h]
    by_cases h1 : i = 1
    · rw [if_pos h1, if_pos h1]
    · rw [if_neg h1, if_neg h1]
      by_cases h2 : startL T C B 4 ≤ i ∧ i < startL T C B 4 + 104 * T ∧ (i - startL T C B 4) % 104 = 0
      · rw [if_pos h2, if_pos h2]
      · rw [if_neg h2, if_neg h2]
        by_cases h3 : startL T C B 6 ≤ i ∧ i < startL T C B 6 + 32 * j ∧ (i - startL T C B 6) % 32 = 0
        · rw [if_pos h3, if_pos (by omega)]
        · rw [if_neg h3, if_neg (by omega)]
theorem own_box {w : World} {B g n size : Nat} {e : TypeId} {xs : List Value} (h : w.ownsRow B e size (.slice (some ⟨g, 0, none⟩) n n) n xs) : Box w g xs.toArray e := by
  obtain ⟨h1, ⟨h2, _⟩ | ⟨g', cap, cur, hv, _, hh, _, _, hs, ht⟩⟩ := h
  · cases h2
  · cases hv
    unfold Box
    rw [hh]
    congr 2
    rw [List.take_of_length_le (by simp [hs])] at ht
    rw [← ht]
/-- Block b holds n words, whose values are f's, with no version and no reference. -/
def FI (b n : Nat) (f : Nat → Int) (W : World) : Prop :=
  ∃ cs : Array Value, Box W b cs 47 ∧ cs.size = n * 3 ∧ ∀ i, i < n → cs[i * 3]? = some (.int .i64 (f i)) ∧ cs[i * 3 + 1]? = some (.int .u32 0) ∧ cs[i * 3 + 2]? = some (.int .u32 0)
theorem FI.below {b n : Nat} {f : Nat → Int} {W W1 : World} (h : FI b n f W) (hb : Below W.heap.size W W1) : FI b n f W1 := by
  obtain ⟨cs, h1, h2⟩ := h
  exact ⟨cs, h1.below hb, h2⟩
theorem FI.congr {b n : Nat} {f g : Nat → Int} {W : World} (h : FI b n f W) (e : ∀ i, f i = g i) : FI b n g W := by
  obtain rfl : f = g := funext e
  exact h
theorem FI.set {b n : Nat} {f : Nat → Int} {W : World} (h : FI b n f W) (p : Nat) (hp : p < n) (x : Int) : FI b n (fun i => if i = p then x else f i) (W.setCell ⟨b, p * 3, none⟩ (.int .i64 x)) := by
  obtain ⟨cs, h1, h2, h3⟩ := h
  refine ⟨_, h1.set _ _, by simpa using h2, fun i hi => ?_⟩
  obtain ⟨e0, e1, e2⟩ := h3 i hi
  simp only [Array.getElem?_setIfInBounds]
  rw [if_neg (show ¬ p * 3 = i * 3 + 1 by omega), if_neg (show ¬ p * 3 = i * 3 + 2 by omega)]
  refine ⟨?_, e1, e2⟩
  by_cases hip : i = p
  · subst hip
    rw [if_pos rfl, if_pos (by omega), if_pos rfl]
  · rw [if_neg (by omega), if_neg hip]
    exact e0
theorem FI.cell {b n : Nat} {f : Nat → Int} {W : World} (h : FI b n f W) (p : Nat) (hp : p < n) : (W.cell? ⟨b, p * 3, none⟩ = some (.int .i64 (f p)) ∧ W.cell? ⟨b, p * 3 + 1, none⟩ = some (.int .u32 0) ∧ W.cell? ⟨b, p * 3 + 2, none⟩ = some (.int .u32 0)) ∧ W.frozen? ⟨b, p * 3, none⟩ = false := by
  obtain ⟨cs, h1, h2, h3⟩ := h
  obtain ⟨e0, e1, e2⟩ := h3 p hp
  exact ⟨⟨(h1.cell _).trans e0, (h1.cell _).trans e1, (h1.cell _).trans e2⟩, h1.free _⟩
theorem FI.lt {b n : Nat} {f : Nat → Int} {W : World} (h : FI b n f W) : b < W.heap.size := by
  obtain ⟨cs, h1, _⟩ := h
  exact h1.lt
theorem made_at (n i : Nat) (hi : i < n) : ∀ j, j < 3 → (madeCells #[.int .i64 0, .int .u32 0, .int .u32 0] (n * 3)).toList.toArray[i * 3 + j]? = some ((#[Value.int .i64 0, .int .u32 0, .int .u32 0] : Array Value)[j]!) := by
  intro j hj
  have e : (i * 3 + j) % 3 = j := by omega
  simp only [madeCells, Array.toArray_toList, Array.getElem?_map]
  rw [Array.getElem?_range, if_pos (by omega)]
  simp only [Option.map_some]
  congr 2
theorem FI.made {W : World} {b n : Nat} (h : Box W b (madeCells #[.int .i64 0, .int .u32 0, .int .u32 0] (n * 3)).toList.toArray 47) : FI b n (fun _ => 0) W := by
  refine ⟨_, h, by simp [size_madeCells], fun i hi => ⟨?_, ?_, ?_⟩⟩
  · exact made_at n i hi 0 (by omega)
  · exact made_at n i hi 1 (by omega)
  · exact made_at n i hi 2 (by omega)
theorem At.set {T C B : Int} {n b : Nat} {w0 W : World} (h : At T C B n w0 W) (hn : n < b) (hg : 0 < b) (hw : w0.heap.size ≤ b) (j : Nat) (u : Value) : At T C B n w0 (W.setCell ⟨b, j, none⟩ u) :=
  have hb : Below b W (W.setCell ⟨b, j, none⟩ u) := (Below.refl b W).setCell (Nat.le_refl _) _
  ⟨⟨(hb.cell hn).trans h.x.1, (hb.cell hn).trans h.x.2.1, (hb.cell hn).trans h.x.2.2⟩, h.g.belowN hb hg, h.b.trans (hb.mono hw), by simpa using h.lt⟩
theorem infoW : (Tryd.prog.info? 47).map (fun i => (i.zero, i.size, i.bytes)) = some (some (.agg #[.int .i64 0, .int .u32 0, .int .u32 0]), 3, 16) := by kernel_rfl
set_option maxRecDepth 100000 in
set_option maxHeartbeats 800000 in
theorem first_no (T C B : Int) (w : World) (hg : Gl w) (h : checkI T C B ≠ 0) : Calls Tryd.prog 20 #[LV T C B] w fun e w' => e = .returned (.slice none 0 0) ∧ Below w.heap.size w w' := by
  have A := Lib.hid (At.box (T := T) (C := C) (B := B) hg rfl)
  have HC := Lib.hid (check_any T C B _ A.out.g)
  have hne : (checkI T C B != 0) = true := by simpa using h
  generalize checkI T C B = ch at *
  clear h
  go_enter Tryd.func20, Tryd.ntmps20
  go_wp2_with fail
  refine HC.out.mono ?_
  rintro e w1 ⟨rfl, hb⟩
  replace A := Lib.hid (A.out.below hb)
  clear hb HC
  go_wp2_with fail
  go_ret
  exact ⟨rfl, A.out.b⟩
set_option maxRecDepth 100000 in
set_option maxHeartbeats 1600000 in
theorem first_ok (T C B : Nat) (w : World) (hg : Gl w) (hok : Ok T C B) : Calls Tryd.prog 20 #[LV T C B] w fun e w' => ∃ b, e = .returned (.slice (some ⟨b, 0, none⟩) (startL T C B 7) (startL T C B 7)) ∧ w.heap.size ≤ b ∧ FI b (startL T C B 7) (fv T C B T B) w' ∧ Below w.heap.size w w' := by
  obtain ⟨i0, hi0, hz0, hz1, hz2⟩ := info_parts infoW
  have A := Lib.hid (At.box (T := T) (C := C) (B := B) hg rfl)
  have HC := Lib.hid (check_any T C B _ A.out.g)
  rw [checkI_ok hok] at HC
  have HZ := Lib.hid (show sizeI T C B = (startL T C B 7 : Int) by unfold sizeI; rw [checkI_ok hok, if_pos rfl]; simp)
  have HE := Lib.hid (show secondI (unitI T C B 0 0) = 1 by rw [unitI_ok hok]; simp [unitsL, startL, secondI])
  have HS := Lib.hid (starts T C B)
  have HO := Lib.hid hok
  have hN : startL T C B 7 ≤ 4096 := hok.2
  have hN1 : 136 ≤ startL T C B 7 := by have := HS.out; have := hok.1; unfold In at this; omega
  have hgw : 0 < w.heap.size := hg.big
  obtain ⟨q1, q2, q3, q4, q5⟩ := hok.1
  clear hg hok
  go_enter Tryd.func20, Tryd.ntmps20
  go_wp2_with fail
  refine HC.out.mono ?_
  rintro e w1 ⟨rfl, hb⟩
  replace A := Lib.hid (A.out.below hb)
  clear hb HC
  obtain ⟨x0, x1, x2⟩ := A.out.x
  go_wp2_with fail
  refine (size_any T C B _ A.out.g).mono ?_
  rintro e w2 ⟨rfl, hb⟩
  rw [HZ.out]
  replace A := Lib.hid (A.out.below hb)
  clear hb x0 x1 x2
  obtain ⟨x0, x1, x2⟩ := A.out.x
  go_wp2_with (first | (at_make; refine wpList_make_full _ rfl _ _ 35 rfl w2.heap.size 47 i0 _ 3 Tryd.underlying35 hi0 hz0 hz1 _ _ _ _ (startL T C B 7) rfl rfl rfl rfl (by rw [hz2]; omega) (by unfold maxLen; omega) (Nat.le_refl _) ?_))
  intro w3 hown hgr
  have F := Lib.hid (FI.made (own_box hown))
  have hb : Below w2.heap.size w2 w3 := (Below.refl _ _).grown hgr (Nat.le_refl _) (fun j hj => by cases hj)
  have LB := Lib.hid (show w.heap.size < w2.heap.size ∧ w.heap.size ≤ w2.heap.size from ⟨A.out.lt, A.out.b.size⟩)
  replace A := Lib.hid (A.out.below hb)
  clear hown hgr hb x0 x1 x2
  obtain ⟨x0, x1, x2⟩ := A.out.x
  obtain ⟨b, hb2⟩ : ∃ b, w2.heap.size = b := ⟨_, rfl⟩
  rw [hb2] at F LB
  rw [hb2]
  clear hb2
  go_wp2_with fail
  refine (era_any T C B _ A.out.g).mono ?_
  rintro e w4 ⟨rfl, hb⟩
  rw [HE.out]
  replace A := Lib.hid (A.out.below hb)
  replace F := Lib.hid (F.out.below hb)
  clear hb x0 x1 x2
  obtain ⟨x0, x1, x2⟩ := A.out.x
  obtain ⟨⟨y0, -, -⟩, f0⟩ := F.out.cell 1 (by omega)
  have h1N : (1 : Int) < startL T C B 7 := by omega
  go_wp2_with fail
  have A1 := Lib.hid (A.out.set LB.out.1 (by have := LB.out; omega) LB.out.2 3 (.int .i64 1))
  have F1 : Hid (FI b (startL T C B 7) (fv T C B 0 0) (w4.setCell ⟨b, 3, none⟩ (.int .i64 1))) := Lib.hid ((F.out.set 1 (by omega) 1).congr (fun i => (fv_zero T C B i).symm))
  clear A F x0 x1 x2 y0 f0 h1N HE HZ
  generalize w4.setCell ⟨b, 3, none⟩ (.int .i64 1) = W1 at *
  go_loopw [4] (fun tv wr => ∃ k : Nat, k ≤ T ∧ tv = .int .i64 ((k : Int) + 1) ∧ FI b (startL T C B 7) (fv T C B k 0) wr ∧ At T C B w.heap.size w wr) (fun tv _ => T + 1 - (intOf tv).toNat)
  case atStart => exact ⟨0, by omega, rfl, F1.out, A1.out⟩
  case round =>
    clear A1 F1
    obtain ⟨k, hk, rfl, hf, ha⟩ := hrel
    have F := Lib.hid hf
    have A := Lib.hid ha
    clear hf ha
    obtain ⟨x0, x1, x2⟩ := A.out.x
    by_cases hlt : k < T
    · obtain ⟨p, hp⟩ : ∃ p, p = startL T C B 4 + 104 * k := ⟨_, rfl⟩
      have HP : Hid (threadI T C B 4 ((k : Int) + 1) = (p : Int)) := Lib.hid (by
        unfold threadI
        rw [if_neg (by omega), unitI_ok HO.out, if_pos (by simp only [unitsL]; simp; omega), hp]
        simp only [unitZ]; simp; omega)
      have HPF := Lib.hid hp
      have hpN : p < startL T C B 7 := by have := HS.out; omega
      have hpI : (p : Int) < startL T C B 7 := by omega
      clear hp
      go_wp2_with fail
      refine (slot_any T C B ((k : Int) + 1) _ A.out.g (by omega)).mono ?_
      rintro e w5 ⟨rfl, hb⟩
      rw [HP.out]
      replace A := Lib.hid (A.out.below hb)
      replace F := Lib.hid (F.out.below hb)
      clear hb x0 x1 x2
      obtain ⟨x0, x1, x2⟩ := A.out.x
      obtain ⟨⟨y0, -, -⟩, f0⟩ := F.out.cell p hpN
      go_wp2_with fail
      go_roundw
      case rel => exact ⟨k + 1, by omega, by go_num, (F.out.set p hpN 2).congr (fun i => by rw [fv_slot, HPF.out]), A.out.set LB.out.1 (by have := LB.out; omega) LB.out.2 _ _⟩
      case measure => simp [intOf]; omega
    · obtain rfl : k = T := by omega
      go_wp2_with fail
      clear x0 x1 x2 hlt hk
      go_loopw [31] (fun tv wr => ∃ j : Nat, j ≤ B ∧ tv = .int .i64 j ∧ FI b (startL k C B 7) (fv k C B k j) wr ∧ At k C B w.heap.size w wr) (fun tv _ => B - (intOf tv).toNat)
      case atStart => exact ⟨0, by omega, rfl, F.out, A.out⟩
      case round =>
        clear A F
        obtain ⟨j, hj, rfl, hf, ha⟩ := hrel
        have F := Lib.hid hf
        have A := Lib.hid ha
        clear hf ha
        obtain ⟨x0, x1, x2⟩ := A.out.x
        by_cases hlt : j < B
        · obtain ⟨p, hp⟩ : ∃ p, p = startL k C B 6 + 32 * j := ⟨_, rfl⟩
          have HP : Hid (unitI k C B 6 (j : Int) = (p : Int)) := Lib.hid (by
            rw [unitI_ok HO.out, if_pos (by simp only [unitsL]; simp; omega), hp]
            simp only [unitZ]; simp; omega)
          have HPF := Lib.hid hp
          have hpN : p < startL k C B 7 := by have := HS.out; omega
          have hpI : (p : Int) < startL k C B 7 := by omega
          clear hp
          go_wp2_with fail
          refine (block_any k C B (j : Int) _ A.out.g).mono ?_
          rintro e w5 ⟨rfl, hb⟩
          rw [HP.out]
          replace A := Lib.hid (A.out.below hb)
          replace F := Lib.hid (F.out.below hb)
          clear hb x0 x1 x2
          obtain ⟨x0, x1, x2⟩ := A.out.x
          obtain ⟨⟨y0, -, -⟩, f0⟩ := F.out.cell p hpN
          go_wp2_with fail
          go_roundw
          case rel => exact ⟨j + 1, by omega, by go_num, (F.out.set p hpN 2).congr (fun i => by rw [fv_block, HPF.out]), A.out.set LB.out.1 (by have := LB.out; omega) LB.out.2 _ _⟩
          case measure => simp [intOf]; omega
        · obtain rfl : j = B := by omega
          go_wp2_with fail
          go_ret
          exact ⟨b, rfl, LB.out.2, F.out, A.out.b⟩
end Go.Proofs.YtfegeahieajmkaaDoor.Lay
