/- Stops of package sched: the stopped threads, each once, in the order of their first stop. -/
import Derived.Test.YtpgcnejofnhhfaaDoorRows3
import Derived.Test.YtpgcnejofnhhfaaDoorAlike
import Derived.Maps.RangeWalk
import Derived.Maps.Views
namespace Go.Proofs.YtpgcnejofnhhfaaDoor
open Go.ChangeShapes Go.WideShapes Go.ChangeAt Go.RowKit Go.Shelf Go.Maps

/-- One pick more. -/
def stopStep (acc : List Int) (p : Pk) : List Int := if p.1 = 1 ∧ p.2.1 ∉ acc then acc ++ [p.2.1] else acc
def stopsL (L : List Pk) : List Int := L.foldl stopStep []
theorem stopsL_succ (L : List Pk) {k : Nat} (h : k < L.length) : stopsL (L.take (k + 1)) = stopStep (stopsL (L.take k)) (L.getD k zPk) := by
  unfold stopsL; rw [take_succ_getD L h, List.foldl_append]; rfl
theorem stopStep_len (acc : List Int) (p : Pk) : (stopStep acc p).length ≤ acc.length + 1 := by unfold stopStep; split <;> simp
theorem stopsL_len (L : List Pk) : ∀ k, k ≤ L.length → (stopsL (L.take k)).length ≤ k
  | 0, _ => by simp [stopsL]
  | k + 1, h => by
    rw [stopsL_succ L (by omega)]
    have := stopStep_len (stopsL (L.take k)) (L.getD k zPk)
    have := stopsL_len L k (by omega)
    omega
/-- The slice v of ints reads as l, and is nobody else's to write. -/
def IRow (B : Nat) (w : World) (v : Value) (l : List Int) : Prop := w.ownsRow B 3 1 v l.length (l.map (Value.int .i64))
theorem IRow.nil (B : Nat) (w : World) : IRow B w (.slice none 0 0) [] := World.ownsRow_nil w B 3 1
theorem IRow.below {B : Nat} {w w1 : World} {v : Value} {m : List Int} (h : IRow B w v m) (hb : Below w.heap.size w w1) : IRow B w1 v m := row_below h hb
/-- The slice v of ints reads as l. -/
def IS (w : World) (v : Value) (l : List Int) : Prop :=
  ∃ a cap, v = .slice a l.length cap ∧ (l = [] ∨ ∃ b, a = some ⟨b, 0, none⟩ ∧ b < w.heap.size ∧ ∀ i, i < l.length → w.cell? ⟨b, i, none⟩ = some (.int .i64 (l.getD i 0)))
theorem IS.below {w w1 : World} {v : Value} {L : List Int} (h : IS w v L) (hb : Below w.heap.size w w1) : IS w1 v L := by
  obtain ⟨a, cap, hv, h | ⟨b, ha, hl, hc⟩⟩ := h
  · exact ⟨a, cap, hv, .inl h⟩
  · exact ⟨a, cap, hv, .inr ⟨b, ha, Nat.lt_of_lt_of_le hl hb.size, fun i hi => (hb.cell hl).trans (hc i hi)⟩⟩
theorem IRow.is {B : Nat} {w : World} {v : Value} {m : List Int} (h : IRow B w v m) : IS w v m := by
  have h0 := h
  obtain ⟨h1, ⟨h2, h3⟩ | ⟨g, cap, cur, hv, hB, hh, r⟩⟩ := h
  · obtain rfl := List.length_eq_zero_iff.1 h3
    exact ⟨_, _, h2, .inl rfl⟩
  · subst hv
    refine ⟨_, cap, rfl, .inr ⟨g, rfl, (Array.getElem?_eq_some_iff.1 hh).1, fun i hi => ?_⟩⟩
    rw [World.ownsRow.cellAt h0 i (by omega)]
    simp [List.getD, hi]
theorem info3 : (Tryd.prog.info? 3).map (fun i => (i.zero, i.size, i.bytes)) = some (some (.int .i64 0), 1, 8) := by kernel_rfl
theorem one_new (w : World) (x : Int) (t : TypeId) {n : Nat} (hn : n = w.heap.size) : ∀ j u, ([.int .i64 x] : List Value)[j]? = some u → (w.alloc (.cells #[.int .i64 x] t)).cell? ((⟨n, 0, none⟩ : Addr).add j) = some u := by
  subst hn
  intro j u h
  match j, h with
  | 0, h => simp at h; subst h; simp [go_sem, Addr.add]
theorem one_one (x : Int) : ∀ u ∈ ([.int .i64 x] : List Value), u.oneCell' = true := by
  intro u hu
  simp at hu
  subst hu; rfl
theorem irow_snoc {w : World} {B : Nat} {v : Value} {out : List Int} {x : Int} (h : w.ownsRow B 3 1 v (out.length + 1) (out.map (Value.int .i64) ++ [.int .i64 x])) : IRow B w v (out ++ [x]) := by
  unfold IRow
  simpa using h
theorem klaw : Keyed Tryd.prog 3 := int_keyed Tryd.underlying3
theorem zeroB (w : World) : (zeroValue 4).run Tryd.prog w = .ok (.bool false) w := by kernel_rfl
theorem key_ok (l : Int) (h : I64 l) : keyOf Tryd.prog 3 (.int .i64 l) = some (.int .i64 l) := keyOf_int_mk Tryd.underlying3 (WalkArith.wf_i64 (by have := h.1; have := h.2; omega))
theorem mkmap (w : World) : (Instr.makeMap 70 none).run Tryd.prog w = .ok (.map (some w.heap.size)) (w.alloc (.map #[] 0)) := by
  simp [Instr.makeMap]
/-- The map b holds just the threads of S. -/
structure MapIs (w : World) (b n : Nat) (S : List Int) : Prop where
  o : ∃ D, w.ownsMap Tryd.prog 3 (plainElem (H := Unit) Tryd.prog 4) b n D ∧ IsMap D ∧ ∀ l, I64 l → D.atKey (.int .i64 l) (.lit (.bool false)) = .lit (.bool (decide (l ∈ S)))
theorem MapIs.new (w : World) : MapIs (w.alloc (.map #[] 0)) w.heap.size 0 [] := ⟨_, World.ownsMap_made w Tryd.prog 3 _, ⟨[], rfl⟩, fun l _ => by simp [DataW.atKey]⟩
theorem MapIs.look {w : World} {b n : Nat} {S : List Int} (h : MapIs w b n S) {l : Int} (hl : I64 l) : (Instr.lookup 70 (.map (some b)) (.int .i64 l) false).run Tryd.prog w = .ok (.bool (decide (l ∈ S))) w := by
  obtain ⟨D, h1, h2, h3⟩ := h.o
  obtain ⟨v, ps, hr, hv⟩ := h1.lookup klaw Tryd.underlying70 (zeroB w) (plainElem_bool Tryd.underlying4 false) (key_ok l hl)
  rw [h3 l hl] at hv
  cases v <;> simp [plainElem, Tryd.underlying4] at hv
  rw [hr, hv.1]
theorem MapIs.put {w' : World} {b n : Nat} {S : List Int} {D : DataW Unit} {l : Int} (hl : I64 l) (hm : IsMap D) (hat : ∀ l, I64 l → D.atKey (.int .i64 l) (.lit (.bool false)) = .lit (.bool (decide (l ∈ S))))
    (h : w'.ownsMap Tryd.prog 3 (plainElem (H := Unit) Tryd.prog 4) b n (D.put (.int .i64 l) (.lit (.bool true)))) : MapIs w' b n (S ++ [l]) := by
  refine ⟨_, h, ?_, fun x hx => ?_⟩
  · obtain ⟨es, rfl⟩ := hm
    exact ⟨_, rfl⟩
  · by_cases e : x = l
    · subst e
      rw [atKey_put_same hm (by trivial)]
      simp
    · rw [atKey_put_other (by simpa using e), hat x hx]
      simp [e]
theorem MapIs.below {w w1 : World} {b n : Nat} {S : List Int} (h : MapIs w b n S) (hb : Below w.heap.size w w1) : MapIs w1 b n S := by
  obtain ⟨D, ⟨es, clock, hk, r⟩, h2, h3⟩ := h.o
  exact ⟨D, ⟨es, clock, (hb.block b (lt_block hk)).trans hk, r⟩, h2, h3⟩
theorem MapIs.grown {w w1 : World} {b n : Nat} {S : List Int} {row : Option Nat} (h : MapIs w b n S) (hg : w.grownBy w1 row) (hne : some b ≠ row) : MapIs w1 b n S := by
  obtain ⟨D, h1, h2, h3⟩ := h.o
  exact ⟨D, h1.kept hg hne, h2, h3⟩
/-- What holds at the head of Stops' loop: b is the map. -/
def HeadS (w : World) (b : Nat) (L : List Pk) (pv iv : Value) (wr : World) : Prop :=
  ∃ k : Nat, k ≤ L.length ∧ iv = .int .i64 k ∧ IRow (b + 1) wr pv (stopsL (L.take k)) ∧ (∃ n, n ≤ k ∧ MapIs wr b n (stopsL (L.take k))) ∧ Below b w wr ∧ b < wr.heap.size
theorem irow_ne {B b : Nat} {w : World} {v : Value} {l : List Int} (h : IRow B w v l) (hb : b < B) : some b ≠ v.ownBlock := fun e => by
  have := (World.ownsRow.lt h b e.symm).1
  omega
set_option maxRecDepth 100000 in
set_option maxHeartbeats 1600000 in
theorem stops_any (v : Value) (L : List Pk) (w : World) (hl : L.length ≤ 100000) (ho : PkOk L) (h : PS w v L) : Calls Tryd.prog 24 #[v] w fun e w' => ∃ u, e = .returned u ∧ IS w' u (stopsL L) ∧ Below w.heap.size w w' := by
  obtain ⟨i0, hi, hz0, hz1, hz2⟩ := info_parts info3
  obtain ⟨a, cap, rfl, h⟩ := h
  have H := Lib.hid h
  have HO := Lib.hid ho
  clear h ho
  obtain ⟨n, hn⟩ : ∃ n, L.length = n := ⟨_, rfl⟩
  rw [hn]
  rw [hn] at hl
  have mk := mkmap
  go_enter Tryd.func24, Tryd.ntmps24
  go_wp2_with fail
  have F0 := Lib.hid (show HeadS w w.heap.size L (.slice none 0 0) (.int .i64 0) (w.alloc (.map #[] 0)) from ⟨0, by omega, rfl, IRow.nil _ _, ⟨0, by omega, MapIs.new w⟩, below1 _ _, by simp⟩)
  obtain ⟨b, hbw⟩ : ∃ b, w.heap.size = b := ⟨_, rfl⟩
  rw [hbw] at F0 ⊢
  clear mk
  generalize w.alloc (.map #[] 0) = W0 at *
  go_loopw [3, 10] (fun pv iv wr => HeadS w b L pv iv wr) (fun _ iv _ => n - (intOf iv).toNat)
  case atStart => exact F0.out
  case round =>
    obtain ⟨k, hk, rfl, hrow, ⟨m, hmk, hmap⟩, hb, hbl⟩ := hrel
    rw [hn] at hk
    have R := Lib.hid hrow
    have M := Lib.hid hmap
    have BB := Lib.hid hb
    clear hrow hmap hb
    by_cases hlt : k < n
    · rcases H.out with h | ⟨b0, off, rfl, hb0, hc⟩
      · subst h; simp at hn; omega
      obtain ⟨c0, c1, c2⟩ := hc k (by omega)
      rw [hbw] at hb0
      rw [← BB.out.cell hb0] at c0 c1 c2
      have HS := Lib.hid (stopsL_succ L (k := k) (by omega))
      have HLN := stopsL_len L k (by omega)
      have HI := (HO.out.at (k := k) (by omega)).2.1
      clear hc
      rw [← getD_eta L k] at HS
      generalize (L.getD k zPk).1 = x0 at *
      generalize (L.getD k zPk).2.1 = x1 at *
      generalize (L.getD k zPk).2.2 = x2 at *
      generalize stopsL (L.take k) = acc at *
      have hbs := below1 wr (.cells #[.int .i64 x0, .int .i64 x1, .int .i64 x2] 35)
      by_cases hx0 : x0 = 1
      · subst hx0
        have lk := (M.out.below hbs).look HI
        by_cases hx1 : x1 ∈ acc
        · have e : stopStep acc (1, x1, x2) = acc := by simp [stopStep, hx1]
          have hd : decide (x1 ∈ acc) = true := by simpa using hx1
          rw [hd] at lk
          go_wp2_with fail
          go_roundw
          case rel => exact ⟨k + 1, by omega, by go_num, by rw [HS.out, e]; exact R.out.below hbs, ⟨m, by omega, by rw [HS.out, e]; exact M.out.below hbs⟩, BB.out.trans (hbs.mono (by omega)), Nat.lt_of_lt_of_le hbl hbs.size⟩
          case measure => simp [intOf]; omega
        · have e : stopStep acc (1, x1, x2) = acc ++ [x1] := by simp [stopStep, hx1]
          have hd : decide (x1 ∈ acc) = false := by simpa using hx1
          rw [hd] at lk
          have M1 := Lib.hid (M.out.below hbs)
          obtain ⟨D, hD, hIM, hat⟩ := M1.out.o
          have HD := Lib.hid hD
          have HIM := Lib.hid hIM
          have HAT := Lib.hid hat
          clear hD hIM hat
          go_wp2_with (first | (at_mapUpdate; refine wpList_mapUpdate_own _ rfl _ _ _ 70 rfl 3 4 klaw Tryd.underlying70 _ b m _ rfl HD.out (by unfold maxLen; omega) _ _ _ rfl rfl (key_ok x1 HI) _ [] (plainElem_bool Tryd.underlying4 true) ?_))
          intro w1 hown1 hg1
          have M2 := Lib.hid (MapIs.put HI HIM.out HAT.out hown1)
          have R1 : Hid (IRow (b + 1) w1 (u3) acc) := Lib.hid (World.ownsRow.kept (R.out.below hbs) hg1 (.inr (fun e => irow_ne R.out (Nat.lt_succ_self b) e.symm)))
          have P1 : Hid (Box w1 wr.heap.size #[.int .i64 1, .int .i64 x1, .int .i64 x2] 35) := Lib.hid ((hg1.block wr.heap.size (by simp) (by simp; omega)).trans (Box.new wr _ 35 rfl))
          have B1 := Lib.hid ((BB.out.trans (hbs.mono (by omega))).grown hg1 (by have := hbs.size; omega) (fun j hj => by cases hj; exact Nat.le_refl _))
          have hl1 : b < w1.heap.size := Nat.lt_of_lt_of_le (Nat.lt_of_lt_of_le hbl hbs.size) hg1.size
          clear hown1 hg1 HD HIM HAT M1 lk c0 c1 c2
          obtain ⟨⟨m0, m1, m2⟩, n0, n1, n2⟩ := P1.out.cells3
          go_wp2_with (first
            | (at_builtin; refine wpList_append_own _ rfl (.tmp 27) (.tmp 30) 51 rfl (b + 1) 3 i0 (.int .i64 0) 1 8 Tryd.underlying51 hi hz0 hz1 hz2 rfl (by decide) _ _ _ rfl (IRow.below R1.out (below1 _ _)) ⟨w1.heap.size, 0, none⟩ 1 1 [.int .i64 x1] rfl rfl (one_new _ _ _ rfl) (one_one _) (by unfold maxLen; omega) (by omega) (by simp; omega) ?_; intro v' w2 hown' hgrow _; have B2 := Lib.hid ((B1.out.alloc (by omega) _).grown hgrow (by simp; omega) (fun j hj => Nat.le_of_lt (World.ownsRow.lt R1.out j hj).1)); have M3 := Lib.hid ((M2.out.below (below1 _ _)).grown hgrow (irow_ne R1.out (Nat.lt_succ_self b))); have O1 := Lib.hid (irow_snoc hown'); have hl2 : b < w2.heap.size := Nat.lt_of_lt_of_le (by simp; omega) hgrow.size; clear hown' hgrow)
            | go_in)
          go_roundw
          case rel => exact ⟨k + 1, by omega, by go_num, by rw [HS.out, e]; exact O1.out, ⟨m + 1, by omega, by rw [HS.out, e]; exact M3.out⟩, B2.out, hl2⟩
          case measure => simp [intOf]; omega
      · have hx0b : (x0 == 1) = false := by rw [beq_eq_false_iff_ne]; exact hx0
        have e : stopStep acc (x0, x1, x2) = acc := by simp [stopStep, hx0]
        go_wp2_with fail
        go_roundw
        case rel => exact ⟨k + 1, by omega, by go_num, by rw [HS.out, e]; exact R.out.below hbs, ⟨m, by omega, by rw [HS.out, e]; exact M.out.below hbs⟩, BB.out.trans (hbs.mono (by omega)), Nat.lt_of_lt_of_le hbl hbs.size⟩
        case measure => simp [intOf]; omega
    · go_wp2_with fail
      go_ret
      obtain rfl : k = n := by omega
      refine ⟨_, rfl, ?_, by rw [hbw]; exact BB.out⟩
      have := R.out.is
      rw [← hn, List.take_length] at this
      exact this
end Go.Proofs.YtpgcnejofnhhfaaDoor
