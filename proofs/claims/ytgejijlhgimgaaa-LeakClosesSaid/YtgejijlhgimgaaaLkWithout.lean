/- without, Lost and Wild of package leak. -/
import Derived.Test.YtgejijlhgimgaaaLkMore
namespace Go.Proofs.Ytgejijlhgimgaaa
open Go.ChangeShapes Go.WideShapes Go.ChangeAt Go.RowKit Go.Maps

theorem lawI : Keyed Try.prog 3 := int_keyed Try.underlying3
theorem zeroB (w : World) : (zeroValue 4).run Try.prog w = .ok (.bool false) w := by kernel_rfl
theorem ne_key {a b : Int} (h : a ≠ b) : (Lit.int .i64 a) ≠ Lit.int .i64 b := fun e => h (by injection e)
theorem isKey (l : Int) : WideAt.IsKeyLit (.int .i64 l) := by trivial
def I64 (x : Int) : Prop := -9223372036854775808 ≤ x ∧ x < 9223372036854775808
theorem key_int (p : Int) (h : I64 p) : keyOf Try.prog 3 (.int .i64 p) = some (.int .i64 p) := keyOf_int_mk Try.underlying3 (WalkArith.wf_i64 (by unfold I64 at h; omega))
/-- The map in block b says true of the members of S, at most n of them. -/
def MapS (w : World) (b n : Nat) (S : List Int) : Prop :=
  ∃ D, w.ownsMap Try.prog 3 (plainElem (H := Unit) Try.prog 4) b n D ∧ IsMap D ∧ ∀ x, D.atKey (.int .i64 x) (.lit (.bool false)) = .lit (.bool (inL S x))
theorem MapS.made (w : World) : MapS (w.alloc (.map #[] 0)) w.heap.size 0 [] := ⟨_, World.ownsMap_made w Try.prog 3 _, ⟨[], rfl⟩, fun _ => rfl⟩
theorem owns_below {w w1 : World} {b n : Nat} {D : DataW Unit} {kt : TypeId} {R : Value → Option (DataW Unit × List MemPlace)} (h : w.ownsMap Try.prog kt R b n D) (hb : Below w.heap.size w w1) : w1.ownsMap Try.prog kt R b n D := by
  have hlt := h.lt
  obtain ⟨es, clock, hk, F, hs, hD⟩ := h
  exact ⟨es, clock, (hb.block b hlt).trans hk, F, hs, hD⟩
theorem MapS.lt {w : World} {b n : Nat} {S : List Int} (h : MapS w b n S) : b < w.heap.size := by
  obtain ⟨D, h1, _⟩ := h; exact h1.lt
theorem MapS.below {w w1 : World} {b n : Nat} {S : List Int} (h : MapS w b n S) (hb : Below w.heap.size w w1) : MapS w1 b n S := by
  obtain ⟨D, h1, h2, h3⟩ := h
  exact ⟨D, owns_below h1 hb, h2, h3⟩
theorem MapS.kept {w w1 : World} {b n : Nat} {S : List Int} {row : Option Nat} (h : MapS w b n S) (hg : w.grownBy w1 row) (hne : some b ≠ row) : MapS w1 b n S := by
  obtain ⟨D, h1, h2, h3⟩ := h
  exact ⟨D, h1.kept hg hne, h2, h3⟩
theorem inL_app (S : List Int) (x y : Int) : inL (S ++ [x]) y = (inL S y || x == y) := by simp [inL]
theorem MapS.look {w : World} {b n : Nat} {S : List Int} (h : MapS w b n S) (x : Int) (hx : I64 x) : (Instr.lookup 35 (.map (some b)) (.int .i64 x) false).run Try.prog w = .ok (.bool (inL S x)) w := by
  obtain ⟨D, h1, h2, h3⟩ := h
  obtain ⟨v, ps, hrun, hv⟩ := h1.lookup lawI Try.underlying35 (zeroB w) (plainElem_bool Try.underlying4 false) (key_int x hx)
  rw [h3] at hv
  have : v = .bool (inL S x) := by
    unfold plainElem at hv
    rw [Try.underlying4] at hv
    cases v <;> simp at hv
    rw [hv.1]
  rw [this] at hrun
  exact hrun
theorem wpList_mark (w : World) {ops : Array Oper} {rest : List Oper} {o : Oper} {a : Act} {Q : Exit → Act → World → Prop}
    (hg : o.guard = none) (m x v : Operand) (hop : o.op = Op.mapUpdate 35 m x v) (b n : Nat) (S : List Int) (hm : a.eval m = .map (some b)) (hown : MapS w b n S) (hn : n < 100000) (y : Int) (hx : a.eval x = .int .i64 y) (hv : a.eval v = .bool true) (hy : I64 y)
    (hK : ∀ w', MapS w' b (n + 1) (S ++ [y]) → w.grownBy w' (some b) → wpList Try.prog ops Q rest (a.put o.dst undef) w') : wpList Try.prog ops Q (o :: rest) a w := by
  obtain ⟨D, h1, h2, h3⟩ := hown
  refine wpList_mapUpdate_own w hg m x v 35 hop 3 4 lawI Try.underlying35 _ b n D hm h1 (by unfold maxLen; omega) _ _ _ hx hv (key_int y hy) _ [] (plainElem_bool Try.underlying4 true) fun w' g1 g2 => hK w' ⟨_, g1, ?_, fun z => ?_⟩ g2
  · obtain ⟨es, rfl⟩ := h2; exact ⟨_, rfl⟩
  · rw [inL_app]
    by_cases e : z = y
    · subst e
      rw [atKey_put_same h2 (isKey _)]; simp
    · rw [atKey_put_other (ne_key e), h3 z]
      have : (y == z) = false := by rw [beq_eq_false_iff_ne]; exact fun h => e h.symm
      rw [this, Bool.or_false]
theorem below_mark {B : Nat} {w wr w1 : World} {b : Nat} (hnx : Below B w wr) (hB : B ≤ wr.heap.size) (hb : B ≤ b) (hg : wr.grownBy w1 (some b)) : Below B w w1 :=
  hnx.grown hg hB (fun j hj => by cases hj; exact hb)
theorem Row.mark {B : Nat} {w w1 : World} {v : Value} {m : List Int} {b n : Nat} {S : List Int} (h : Row B w v m) (hm : MapS w b n S) (hg : w.grownBy w1 (some b)) : Row B w1 v m :=
  h.grownOther hg fun g hv e => by
    injection e with e
    subst e
    obtain ⟨D, ⟨es, clock, hk, _⟩, _⟩ := hm
    obtain ⟨_, ⟨h2, _⟩ | ⟨g', cap, cur, hv', _, hh, _⟩⟩ := h
    · rw [h2] at hv; cases hv
    · rw [hv'] at hv
      have e' : g' = g := by simpa [Value.ownBlock] using hv
      subst e'
      rw [hh] at hk
      cases hk
theorem map_not_row {B : Nat} {w : World} {v : Value} {m : List Int} {b n : Nat} {S : List Int} (h : Row B w v m) (hm : MapS w b n S) : some b ≠ v.ownBlock := by
  obtain ⟨D, ⟨es, clock, hk, _⟩, _⟩ := hm
  obtain ⟨_, ⟨h2, _⟩ | ⟨g', cap, cur, hv', _, hh, _⟩⟩ := h
  · rw [h2]; exact fun e => by cases e
  · rw [hv']
    intro e
    have e' : b = g' := by simpa [Value.ownBlock] using e
    subst e'
    rw [hh] at hk
    cases hk
theorem run_mkmap (w : World) : (Instr.makeMap 35 none).run Try.prog w = .ok (.map (some w.heap.size)) (w.alloc (.map #[] 0)) := by
  simp [Instr.makeMap]
def OkL (L : List Int) : Prop := ∀ x ∈ L, I64 x
set_option maxRecDepth 100000 in
set_option maxHeartbeats 3200000 in
theorem without_any (v u : Value) (A B : List Int) (w : World) (hl : A.length ≤ 1000) (hl2 : B.length ≤ 1000) (hv : IS w v A) (hu : IS w u B) (oa : OkL A) (ob : OkL B) :
    Calls Try.prog 19 #[v, u] w (Set w (fun x => x ∈ A ∧ x ∉ B) A.length) := by
  obtain ⟨a, cap, rfl, hcap, h⟩ := hv
  obtain ⟨a2, cap2, rfl, hcap2, h2⟩ := hu
  have H := Lib.hid h
  have H2 := Lib.hid h2
  have OA := Lib.hid oa
  have OB := Lib.hid ob
  clear h h2 hcap hcap2 oa ob
  obtain ⟨n, hn⟩ : ∃ n, A.length = n := ⟨_, rfl⟩
  obtain ⟨m, hm⟩ : ∃ n, B.length = n := ⟨_, rfl⟩
  rw [hn] at hl ⊢
  rw [hm] at hl2 ⊢
  have HN := Lib.hid hn
  have HM := Lib.hid hm
  clear hn hm
  have mk := run_mkmap
  go_enter Try.func19, Try.ntmps19
  go_wp2_with fail
  clear mk
  obtain ⟨W, hW⟩ : ∃ W, w.alloc (.map #[] 0) = W := ⟨_, rfl⟩
  obtain ⟨q, hq⟩ : ∃ q, w.heap.size = q := ⟨_, rfl⟩
  have M0 : Hid (MapS W q 0 []) := Lib.hid (by rw [← hW, ← hq]; exact MapS.made w)
  have BW : Hid (Below w.heap.size w W) := Lib.hid (by rw [← hW]; exact below1 _ _)
  have HQ := Lib.hid hq
  rw [hW, hq]
  clear hW hq
  go_loopw [14] (fun iv wr => ∃ k : Nat, k ≤ m ∧ iv = .int .i64 k ∧ MapS wr q k (B.take k) ∧ Below w.heap.size w wr) (fun iv _ => m - (intOf iv).toNat)
  case atStart => exact ⟨0, by omega, rfl, M0.out, BW.out⟩
  case round =>
    obtain ⟨k, hk, rfl, hm, hb⟩ := hrel
    have MS := Lib.hid hm
    have BB := Lib.hid hb
    have hsz := hb.size
    clear hb hm
    by_cases hlt : k < m
    · rcases H2.out with h | ⟨b, off, rfl, hbl, hc⟩
      · rw [h] at HM; have := HM.out; simp at this; omega
      have c0 := hc k (by rw [HM.out]; exact hlt)
      have HT := Lib.hid (take_succ_getDI B (k := k) (by rw [HM.out]; exact hlt))
      have hx6 := OB.out _ (getD_mem (L := B) (k := k) (by rw [HM.out]; exact hlt))
      rw [← BB.out.cell hbl] at c0
      clear hc
      obtain ⟨x, hx⟩ : ∃ y, B.getD k 0 = y := ⟨_, rfl⟩
      rw [hx] at c0 HT hx6
      clear hx
      go_wp2_with (first | (at_mapUpdate; refine wpList_mark _ rfl _ _ _ rfl q k _ rfl MS.out (by omega) x rfl rfl hx6 ?_; intro w1 m1 g1; have M1 := Lib.hid m1; have B1 := Lib.hid (below_mark BB.out hsz (Nat.le_of_eq HQ.out) g1); clear m1 g1) | fail)
      go_roundw
      case rel => exact ⟨k + 1, by omega, by go_num, by rw [HT.out]; exact M1.out, B1.out⟩
      case measure => simp [intOf]; omega
    · obtain rfl : k = m := by omega
      have MT : Hid (MapS wr q k B) := Lib.hid (by have e := MS.out; rwa [List.take_of_length_le (by rw [HM.out]; exact Nat.le_refl _)] at e)
      clear MS
      go_wp2_with fail
      go_loopw [8, 23] (fun ov iv wr => ∃ j : Nat, ∃ out S, j ≤ n ∧ iv = .int .i64 j ∧ Row w.heap.size wr ov out ∧ MapS wr q (k + out.length) S ∧ (∀ y, y ∈ S ↔ y ∈ B ∨ y ∈ A.take j) ∧ (∀ y, y ∈ out ↔ y ∈ A.take j ∧ y ∉ B) ∧ out.Nodup ∧ out.length ≤ j ∧ Below w.heap.size w wr) (fun _ iv _ => n - (intOf iv).toNat)
      case atStart => exact ⟨0, [], B, by omega, rfl, Row.nil _ _, MT.out, by simp, by simp, List.nodup_nil, by simp, BB.out⟩
      case round =>
        obtain ⟨j, out, S, hj, rfl, hrow, hm, hS, hout, hnd, hlen, hb⟩ := hrel
        have R := Lib.hid hrow
        have MS := Lib.hid hm
        have B2 := Lib.hid hb
        have HS := Lib.hid hS
        have HO := Lib.hid hout
        have ND := Lib.hid hnd
        have hsz2 := hb.size
        clear hb hm hrow hS hout hnd
        by_cases hlt : j < n
        · rcases H.out with h | ⟨b, off, rfl, hbl, hc⟩
          · rw [h] at HN; have := HN.out; simp at this; omega
          have c0 := hc j (by rw [HN.out]; exact hlt)
          have HT := Lib.hid (take_succ_getDI A (k := j) (by rw [HN.out]; exact hlt))
          have hx6 := OA.out _ (getD_mem (L := A) (k := j) (by rw [HN.out]; exact hlt))
          rw [← B2.out.cell hbl] at c0
          clear hc
          obtain ⟨x, hx⟩ : ∃ y, A.getD j 0 = y := ⟨_, rfl⟩
          rw [hx] at c0 HT hx6
          clear hx
          have lk := MS.out.look x hx6
          have HQ2 := Lib.hid (inL_iff S x)
          obtain ⟨r, hr⟩ : ∃ r, inL S x = r := ⟨_, rfl⟩
          rw [hr] at lk HQ2
          clear hr
          cases r with
          | true =>
            have hx := Lib.hid (HQ2.out.1 rfl)
            go_wp2_with fail
            go_roundw
            case rel =>
              refine ⟨j + 1, out, S, by omega, by go_num, R.out, MS.out, fun y => ?_, fun y => ?_, ND.out, by omega, B2.out⟩
              · rw [HT.out, HS.out y, List.mem_append, List.mem_singleton]
                constructor
                · rintro (h | h)
                  · exact .inl h
                  · exact .inr (.inl h)
                · rintro (h | h | h)
                  · exact .inl h
                  · exact .inr h
                  · exact (HS.out y).1 (h ▸ hx.out)
              · rw [HT.out, HO.out y, List.mem_append, List.mem_singleton]
                constructor
                · exact fun h => ⟨.inl h.1, h.2⟩
                · rintro ⟨h | h, h2⟩
                  · exact ⟨h, h2⟩
                  · rcases (HS.out y).1 (h ▸ hx.out) with h3 | h3
                    · exact absurd h3 h2
                    · exact ⟨h3, h2⟩
            case measure => simp [intOf]; omega
          | false =>
            have hnot : Hid (x ∉ S) := Lib.hid (fun hm => by have := HQ2.out.2 hm; cases this)
            clear HQ2
            go_wp2_with (first
              | (at_mapUpdate; refine wpList_mark _ rfl _ _ _ rfl q _ _ rfl MS.out (by omega) x rfl rfl hx6 ?_; intro w1 m1 g1; have M1 := Lib.hid m1; have B3 := Lib.hid (below_mark B2.out hsz2 (Nat.le_of_eq HQ.out) g1); have R1 := Lib.hid (R.out.mark MS.out g1); have hsz3 := B3.out.size; have A2 := Lib.hid (B3.out.alloc hsz3 (.cells #[.int .i64 x] 3)); have R2 := Lib.hid (R1.out.below (below1 w1 (.cells #[.int .i64 x] 3))); have S2 := Lib.hid (IS.ofBox (Box.new w1 #[.int .i64 x] 3 rfl) (L := [x]) (n := 1) (cap := 1) rfl rfl (Nat.le_refl _)); clear m1 g1 lk)
              | (at_builtin; refine wpList_app' _ rfl (.tmp 33) (.tmp 35) rfl rfl A2.out R2.out rfl S2.out (by simp; omega) ?_; intro v2 w2 r2 b2 g2; have R3 := Lib.hid r2; have B5 := Lib.hid b2; have M2 := Lib.hid ((M1.out.below (below1 w1 (.cells #[.int .i64 x] 3))).kept g2 (map_not_row R2.out (M1.out.below (below1 _ _)))); clear r2 b2 g2)
              | fail)
            go_roundw
            case rel =>
              refine ⟨j + 1, _, _, by omega, by go_num, R3.out, by simpa [Nat.add_assoc] using M2.out, fun y => ?_, fun y => ?_, ?_, by simp; omega, B5.out⟩
              · rw [HT.out, List.mem_append, HS.out y, List.mem_append, List.mem_singleton, or_assoc]
              · rw [HT.out, List.mem_append, HO.out y, List.mem_append, List.mem_singleton]
                constructor
                · rintro (h | h)
                  · exact ⟨.inl h.1, h.2⟩
                  · exact ⟨.inr h, fun hB => hnot.out ((HS.out x).2 (.inl (h ▸ hB)))⟩
                · rintro ⟨h | h, h2⟩
                  · exact .inl ⟨h, h2⟩
                  · exact .inr h
              · rw [List.nodup_append]
                refine ⟨ND.out, by simp, fun a ha b hb => ?_⟩
                simp at hb
                rintro rfl
                exact hnot.out ((HS.out x).2 (.inr (hb ▸ ((HO.out a).1 ha).1)))
            case measure => simp [intOf]; omega
        · obtain rfl : j = n := by omega
          have hol : out.length ≤ 1000000 := by omega
          obtain ⟨ao, co, rfl, hco⟩ := R.out.form
          clear hco
          have SR := Lib.hid (sort_row R.out hol)
          have HI := Lib.hid (sort_inc ND.out)
          have HM2 := Lib.hid (fun x => sort_mem (L := out) x)
          have HL2 : Hid ((out.mergeSort fun x y => decide (x ≤ y)).length = out.length) := Lib.hid (List.length_mergeSort _)
          go_wp2_with fail
          refine SR.out.mono ?_
          rintro e w1 ⟨rfl, hr2, hg2⟩
          have R2 := Lib.hid hr2
          have B3 := Lib.hid (below_app B2.out hsz2 R.out hg2)
          clear hr2 hg2 SR
          go_wp2_with fail
          go_ret
          exact ⟨_, _, rfl, R2.out, HI.out, fun x => by rw [HM2.out x, HO.out x, List.take_of_length_le (by rw [HN.out]; exact Nat.le_refl _)], by rw [HL2.out]; exact hlen, B3.out⟩
theorem lost_any (v u : Value) (A B : List Int) (w : World) (hl : A.length ≤ 1000) (hl2 : B.length ≤ 1000) (hv : IS w v A) (hu : IS w u B) (oa : OkL A) (ob : OkL B) :
    Calls Try.prog 14 #[v, u] w (Set w (fun x => x ∈ A ∧ x ∉ B) A.length) := by
  have HC := Lib.hid (without_any v u A B w hl hl2 hv hu oa ob)
  obtain ⟨a, cap, rfl, hcap, h⟩ := hv
  obtain ⟨a2, cap2, rfl, hcap2, h2⟩ := hu
  clear h h2 hcap hcap2 oa ob
  go_enter Try.func14, Try.ntmps14
  go_wp2_with fail
  refine HC.out.mono ?_
  rintro e w1 ⟨z, S, rfl, hrow, hrest⟩
  obtain ⟨az, cz, rfl, hcz⟩ := hrow.form
  have RR := Lib.hid hrow
  have H2 := Lib.hid hrest
  clear hrow hrest hcz HC
  go_wp2_with fail
  go_ret
  exact ⟨_, S, rfl, RR.out, H2.out⟩
theorem wild_any (v u : Value) (A B : List Int) (w : World) (hl : A.length ≤ 1000) (hl2 : B.length ≤ 1000) (hv : IS w v A) (hu : IS w u B) (oa : OkL A) (ob : OkL B) :
    Calls Try.prog 12 #[u, v] w (Set w (fun x => x ∈ A ∧ x ∉ B) A.length) := by
  have HC := Lib.hid (without_any v u A B w hl hl2 hv hu oa ob)
  obtain ⟨a, cap, rfl, hcap, h⟩ := hv
  obtain ⟨a2, cap2, rfl, hcap2, h2⟩ := hu
  clear h h2 hcap hcap2 oa ob
  go_enter Try.func12, Try.ntmps12
  go_wp2_with fail
  refine HC.out.mono ?_
  rintro e w1 ⟨z, S, rfl, hrow, hrest⟩
  obtain ⟨az, cz, rfl, hcz⟩ := hrow.form
  have RR := Lib.hid hrow
  have H2 := Lib.hid hrest
  clear hrow hrest hcz HC
  go_wp2_with fail
  go_ret
  exact ⟨_, S, rfl, RR.out, H2.out⟩
end Go.Proofs.Ytgejijlhgimgaaa
