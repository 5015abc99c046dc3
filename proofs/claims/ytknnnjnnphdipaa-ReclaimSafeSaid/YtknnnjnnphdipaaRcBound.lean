/- Bound of package reclaim: the sums over the distinct eras and pointers. -/
import Derived.Test.YtknnnjnnphdipaaRcMap
namespace Go.Proofs.Ytknnnjnnphdipaa
open Go.ChangeShapes Go.WideShapes Go.ChangeAt Go.RowKit Go.Maps
/-- A loop over a set: V is met, the rest of A is to come. -/
structure RG (wr : World) (b r n : Nat) (A V : List Int) (cnt : Nat) : Prop where
  rg : ∃ D left, wr.ranges Try.prog 2 (plainElem (H := Unit) Try.prog 4) b r n D left cnt ∧ ∀ x, left (.int .i64 x) = (inL A x && !inL V x)
  nd : V.Nodup
  sub : ∀ x ∈ V, x ∈ A
  room : V.length + cnt ≤ n
theorem ranges_below {w w1 : World} {b r n cnt : Nat} {D : DataW Unit} {left : Lit → Bool} (h : w.ranges Try.prog 2 (plainElem (H := Unit) Try.prog 4) b r n D left cnt) (hb : Below w.heap.size w w1) : w1.ranges Try.prog 2 (plainElem (H := Unit) Try.prog 4) b r n D left cnt := by
  have h1 := h.owns.lt
  have h2 := h.lt
  obtain ⟨es, clock, since, seen, c0, hk, F, hs, hD, hr, rest⟩ := h
  exact ⟨es, clock, since, seen, c0, (hb.block b h1).trans hk, F, hs, hD, (hb.block r h2).trans hr, rest⟩
theorem RG.below {w w1 : World} {b r n cnt : Nat} {A V : List Int} (h : RG w b r n A V cnt) (hb : Below w.heap.size w w1) : RG w1 b r n A V cnt := by
  obtain ⟨D, left, h1, h2⟩ := h.rg
  exact ⟨⟨D, left, ranges_below h1 hb, h2⟩, h.nd, h.sub, h.room⟩
theorem RG.left {w : World} {b r n cnt : Nat} {A V : List Int} (h : RG w b r n A V cnt) : w.rangeLeft b r = cnt := by
  obtain ⟨D, left, h1, h2⟩ := h.rg; exact h1.left_eq
theorem RG.lt {w : World} {b r n cnt : Nat} {A V : List Int} (h : RG w b r n A V cnt) : r < w.heap.size := by
  obtain ⟨D, left, h1, h2⟩ := h.rg; exact h1.lt
/-- 'range' over the set. -/
theorem wpList_rangeS (w : World) {ops : Array Oper} {rest : List Oper} {o : Oper} {a : Act} {Q : Exit → Act → World → Prop} (hg : o.guard = none) (m : Operand) (hop : o.op = Op.range 58 m) (b n : Nat) (A : List Int)
    (hm : a.eval m = .map (some b)) (hown : MapS w b n A)
    (hK : ∀ w' cnt, RG w' b w.heap.size n A [] cnt → w.grownBy w' none → w'.heap.size = w.heap.size + 1 → wpList Try.prog ops Q rest (a.put o.dst (.pointer (some ⟨w.heap.size, 0, none⟩))) w') :
    wpList Try.prog ops Q (o :: rest) a w := by
  obtain ⟨D, h1, h2, h3⟩ := hown
  refine wpList_range_own w hg m 58 hop 2 4 lawE Try.underlying58 _ b n D hm h1 fun w' g1 g2 g3 => hK w' _ ⟨⟨D, _, g1, fun x => by rw [h3 x]; simp [inL]⟩, List.nodup_nil, (fun _ h => by cases h), by simpa using h1.size_le⟩ g2 g3
theorem bool_inv {v : Value} {y : DataW Unit × List MemPlace} (h : plainElem (H := Unit) Try.prog 4 v = some y) : ∃ c, v = .bool c := by
  unfold plainElem at h
  rw [Try.underlying4] at h
  cases v <;> simp at h
  exact ⟨_, rfl⟩
/-- The step. -/
theorem wpList_nextS (w : World) {ops : Array Oper} {rest : List Oper} {o : Oper} {a : Act} {Q : Exit → Act → World → Prop} (hg : o.guard = none) (it : Operand) (hop : o.op = Op.next it false) (b r n cnt : Nat) (A V : List Int)
    (hit : a.eval it = .pointer (some ⟨r, 0, none⟩)) (h : RG w b r n A V cnt)
    (hDone : (∀ x, x ∈ V ↔ x ∈ A) → wpList Try.prog ops Q rest (a.put o.dst (.tuple #[.bool false])) w)
    (hMore : ∀ (x : Int) (u : Value) (w' : World) (cnt' : Nat), x ∈ A → RG w' b r n A (V ++ [x]) cnt' → cnt' < cnt → w.grownBy w' (some r) → (Instr.entry (.pointer (some ⟨r, 0, none⟩))).run Try.prog w' = .ok (.tuple #[.int .i64 x, u]) w' →
      wpList Try.prog ops Q rest (a.put o.dst (.tuple #[.bool true, .int .i64 x, u])) w') : wpList Try.prog ops Q (o :: rest) a w := by
  obtain ⟨D, left, h1, h2⟩ := h.rg
  refine wpList_next_ranges w hg it hop 2 lawE _ (Value.int .i64) Value.bool (fun key kl hkey => by obtain ⟨x, rfl, _⟩ := Maps.keyOf_int_inv Try.underlying2 hkey; exact ⟨x, rfl⟩) (fun v y hv => bool_inv hv) b r n D left cnt hit h1 (fun _ hl => hDone fun x => ?_) (fun x c kl y w' cnt' hkey hlk hv hat hrg hlt hgr hsz hen => ?_)
  · refine ⟨h.sub x, fun hx => ?_⟩
    have := h2 x
    rw [hl, (inL_iff A x).2 hx] at this
    simp at this
    exact (inL_iff V x).1 this
  · obtain ⟨x', e, rfl, _⟩ := Maps.keyOf_int_inv Try.underlying2 hkey
    cases e
    have hx := h2 x
    rw [hlk] at hx
    have hxa : x ∈ A := (inL_iff A x).1 (by cases h : inL A x with | true => rfl | false => rw [h] at hx; cases hx)
    have hxv : x ∉ V := fun hm => by rw [(inL_iff V x).2 hm] at hx; simp at hx
    refine hMore x (.bool c) w' cnt' hxa ⟨⟨D, _, hrg, fun z => ?_⟩, ?_, fun z hz => ?_, ?_⟩ hlt hgr hen
    · have e : (Lit.int IntKind.i64 z).sameKey (.int .i64 x) = (x == z) := by
        by_cases e : z = x
        · subst e; rw [WideAt.sameKey_self (isKey _)]; simp
        · rw [sameKey_ne (ne_key e)]; symm; rw [beq_eq_false_iff_ne]; exact fun h => e h.symm
      rw [h2 z, inL_app, e]
      cases inL A z <;> cases inL V z <;> cases (x == z) <;> rfl
    · rw [List.nodup_append]
      refine ⟨h.nd, by simp, fun p hp q hq => ?_⟩
      simp at hq
      subst hq
      rintro rfl
      exact hxv hp
    · rcases List.mem_append.1 hz with hz | hz
      · exact h.sub z hz
      · simp at hz; subst hz; exact hxa
    · have := h.room
      simp; omega
/-- What Bound answers: the sums over lists V and U that hold the eras and the pointers once each. -/
def BoundS (A P : List Int) (L : List It) (n : Nat) : Prop :=
  ∃ V U : List Int, V.Nodup ∧ (∀ x, x ∈ V ↔ x ∈ A) ∧ U.Nodup ∧ (∀ x, x ∈ U ↔ x ∈ P) ∧ n = sumF (fun e => cntE e L) V + sumF (fun h => if anyP h L = true then 1 else 0) U
theorem BoundS.uniq {A P : List Int} {L : List It} {n m : Nat} (h : BoundS A P L n) (h' : BoundS A P L m) : n = m := by
  obtain ⟨V, U, v1, v2, u1, u2, rfl⟩ := h
  obtain ⟨V', U', v1', v2', u1', u2', rfl⟩ := h'
  rw [sumF_eq _ V V' v1 v1' (fun x => (v2 x).trans (v2' x).symm), sumF_eq _ U U' u1 u1' (fun x => (u2 x).trans (u2' x).symm)]
def Bnd (A P : List Int) (L : List It) (w : World) (e : Ending) (w' : World) : Prop := ∃ n : Nat, e = .returned (.int .i64 n) ∧ BoundS A P L n ∧ n ≤ 2000000 ∧ Below w.heap.size w w'
set_option maxRecDepth 100000 in
set_option maxHeartbeats 3200000 in
theorem bound_any (v u z : Value) (A P : List Int) (L : List It) (w : World) (hv : IS w v A) (hu : IS w u P) (hz : PS w z L) (la : A.length ≤ 1000) (lp : P.length ≤ 1000) (ll : L.length ≤ 1000) (oa : OkL A) (op : OkL P) (ol : ∀ x ∈ L, I64 x.1) :
    Calls Try.prog 18 #[v, u, z] w (Bnd A P L w) := by
  have HV := Lib.hid hv
  have HU := Lib.hid hu
  have HZ := Lib.hid hz
  have OP := Lib.hid op
  have OL := Lib.hid ol
  have DV := Lib.hid (distinct_any v A w hv la oa)
  have DU := Lib.hid (fun W h => distinct_any u P W h lp op)
  obtain ⟨a1, c1, rfl⟩ := hv.form
  obtain ⟨a2, c2, rfl⟩ := hu.form
  obtain ⟨a3, c3, rfl⟩ := hz.form
  clear hv hu hz oa op ol
  go_enter Try.func18, Try.ntmps18
  go_wp2_with fail
  refine DV.out.mono ?_
  rintro e w1 ⟨b, rfl, hm, hbb, hb⟩
  have M1 := Lib.hid hm
  have B1 := Lib.hid hb
  have HBB := Lib.hid hbb
  have hs1 := hb.size
  clear hm hb hbb DV
  go_wp2_with (first
    | (at_range; refine wpList_rangeS _ rfl _ rfl b A.length A rfl M1.out ?_; intro w2 cnt g1 g2 g3; have G1 := Lib.hid g1; have B2 := Lib.hid (show Below w.heap.size w w2 from B1.out.grown g2 hs1 (fun k hk => by cases hk)); clear g1 g2 g3)
    | fail)
  go_frame
  obtain ⟨r, hr⟩ : ∃ r, w1.heap.size = r := ⟨_, rfl⟩
  rw [hr] at G1 hs1 ⊢
  clear hr M1 B1
  go_loopw [7] (fun bv wr => ∃ V cnt, RG wr b r A.length A V cnt ∧ bv = .int .i64 (sumF (fun e => cntE e L) V) ∧ Below w.heap.size w wr) (fun _ wr => wr.rangeLeft b r)
  case atStart => exact ⟨[], cnt, G1.out, rfl, B2.out⟩
  case round =>
    obtain ⟨V, cnt1, hg, rfl, hb⟩ := hrel
    have G := Lib.hid hg
    have BB := Lib.hid hb
    have hroom := hg.room
    have hleft := hg.left
    have hle := sumF_le (fun e => cntE e L) V 1000 (fun e => by have := cntE_le e L; omega)
    have hsum : sumF (fun e => cntE e L) V ≤ 1000000 := by omega
    have HLEFT := Lib.hid hleft
    clear hg hb hle hleft G1 B2
    go_wp2_with (first
      | (at_next; refine wpList_nextS _ rfl _ rfl b r A.length cnt1 A V rfl G.out ?_ ?_)
      | fail)
    · intro hdone
      have HD := Lib.hid hdone
      have RND := Lib.hid G.out.nd
      clear hdone G hroom HLEFT
      go_wp2_with fail
      refine (DU.out wr (HU.out.below BB.out)).mono ?_
      rintro e w3 ⟨b2, rfl, hm, hbb, hb⟩
      have M2 := Lib.hid hm
      replace BB := Lib.hid (BB.out.trans (hb.mono BB.out.size))
      have hs3 := BB.out.size
      clear hm hb hbb DU
      go_wp2_with (first
        | (at_range; refine wpList_rangeS _ rfl _ rfl b2 P.length P rfl M2.out ?_; intro w4 cnt g1 g2 g3; have G2 := Lib.hid g1; have B4 := Lib.hid (show Below w.heap.size w w4 from BB.out.grown g2 hs3 (fun k hk => by cases hk)); clear g1 g2 g3)
        | fail)
      go_frame
      obtain ⟨r2, hr⟩ : ∃ r, w3.heap.size = r := ⟨_, rfl⟩
      rw [hr] at G2 hs3 ⊢
      clear hr M2 BB
      have HVV := Lib.hid (show V.Nodup from RND.out)
      obtain ⟨sv, hsv⟩ : ∃ s, sumF (fun e => cntE e L) V = s := ⟨_, rfl⟩
      rw [hsv] at hsum ⊢
      have HSV := Lib.hid hsv
      clear hsv
      go_loopw [7] (fun bv wr => ∃ U cnt, RG wr b2 r2 P.length P U cnt ∧ bv = .int .i64 ((sv + sumF (fun h => if anyP h L = true then 1 else 0) U : Nat) : Int) ∧ Below w.heap.size w wr) (fun _ wr => wr.rangeLeft b2 r2)
      case atStart => exact ⟨[], cnt, G2.out, by simp [sumF], B4.out⟩
      case round =>
        obtain ⟨U, cnt2, hg, rfl, hb⟩ := hrel
        have G := Lib.hid hg
        have BB := Lib.hid hb
        have hroom := hg.room
        have hle := sumF_le (fun h => if anyP h L = true then 1 else 0) U 1 (fun h => by split <;> omega)
        have hsu : sumF (fun h => if anyP h L = true then 1 else 0) U ≤ 1000 := by omega
        have HLEFT := Lib.hid hg.left
        clear hg hb hle G2 B4
        obtain ⟨su, hsuq⟩ : ∃ s, sumF (fun h => if anyP h L = true then 1 else 0) U = s := ⟨_, rfl⟩
        rw [hsuq] at hsu ⊢
        have HSU := Lib.hid hsuq
        clear hsuq
        obtain ⟨tot, htot⟩ : ∃ t, sv + su = t := ⟨_, rfl⟩
        rw [htot]
        have htb : tot ≤ 1001000 := by omega
        have HT := Lib.hid htot
        clear htot hsum hsu
        go_wp2_with (first
          | (at_next; refine wpList_nextS _ rfl _ rfl b2 r2 P.length cnt2 P U rfl G.out ?_ ?_)
          | fail)
        · intro hdone
          have HD2 := Lib.hid hdone
          clear hdone
          have UND := Lib.hid G.out.nd
          clear G
          go_wp2_with fail
          go_ret
          exact ⟨tot, rfl, ⟨V, U, HVV.out, HD.out, UND.out, HD2.out, by rw [HSV.out, HSU.out, HT.out]⟩, by omega, BB.out⟩
        · intro x u w3 cnt3 hxa hg hlt hgr hen
          have G3 := Lib.hid hg
          have HX := Lib.hid hxa
          replace BB := Lib.hid (show Below w.heap.size w w3 from BB.out.grown hgr BB.out.size (fun k hk => by cases hk; exact hs3))
          have hlt2 := Lib.hid hlt
          clear hg hgr hlt hxa G
          have CY := Lib.hid (anyAt_any x _ L w3 (HZ.out.below BB.out) ll (OP.out x HX.out) OL.out)
          have HSUM := Lib.hid (sumF_app (fun h => if anyP h L = true then 1 else 0) U [x])
          obtain ⟨s, hs⟩ : ∃ s, anyP x L = s := ⟨_, rfl⟩
          rw [hs] at CY
          have HS := Lib.hid hs
          clear hs
          go_wp2_with fail
          clear hen
          refine CY.out.mono ?_
          rintro e w4 ⟨rfl, hb⟩
          have G4 := Lib.hid (G3.out.below hb)
          replace BB := Lib.hid (BB.out.trans (hb.mono BB.out.size))
          clear hb G3 CY
          cases s with
          | true =>
            have HS1 : Hid (sv + sumF (fun h => if anyP h L = true then 1 else 0) (U ++ [x]) = tot + 1) := Lib.hid (by rw [HSUM.out, HSU.out, ← HT.out]; simp [sumF, HS.out]; omega)
            go_wp2_with fail
            refine ⟨⟨U ++ [x], cnt3, G4.out, by rw [HS1.out, Int.natCast_add]; rfl, BB.out⟩, by rw [G4.out.left, HLEFT.out]; exact hlt2.out⟩
          | false =>
            have HS1 : Hid (sv + sumF (fun h => if anyP h L = true then 1 else 0) (U ++ [x]) = tot) := Lib.hid (by rw [HSUM.out, HSU.out, ← HT.out]; simp [sumF, HS.out])
            go_wp2_with fail
            refine ⟨⟨U ++ [x], cnt3, G4.out, by rw [HS1.out], BB.out⟩, by rw [G4.out.left, HLEFT.out]; exact hlt2.out⟩
    · intro x u w3 cnt3 hxa hg hlt hgr hen
      have G3 := Lib.hid hg
      have HX := Lib.hid hxa
      have hrw : w.heap.size ≤ r := hs1
      replace BB := Lib.hid (show Below w.heap.size w w3 from BB.out.grown hgr BB.out.size (fun k hk => by cases hk; exact hs1))
      have hlt2 := Lib.hid hlt
      clear hg hgr hlt hxa G
      go_wp2_with fail
      clear hen
      refine (count_any x _ L w3 (HZ.out.below BB.out) ll).mono ?_
      rintro e w4 ⟨rfl, hb⟩
      have G4 := Lib.hid (G3.out.below hb)
      replace BB := Lib.hid (BB.out.trans (hb.mono BB.out.size))
      have hc := cntE_le x L
      have HSUM := Lib.hid (sumF_app (fun e => cntE e L) V [x])
      clear hb G3
      generalize sumF (fun e => cntE e L) V = sv at *
      obtain ⟨cx, hcx⟩ : ∃ c, cntE x L = c := ⟨_, rfl⟩
      have HS1 : Hid (sumF (fun e => cntE e L) (V ++ [x]) = sv + cx) := Lib.hid (by rw [HSUM.out, ← hcx]; simp [sumF])
      rw [hcx] at hc
      try rw [hcx]
      clear hcx
      go_wp2_with fail
      exact ⟨⟨V ++ [x], cnt3, G4.out, by rw [HS1.out, Int.natCast_add], BB.out⟩, by rw [G4.out.left, HLEFT.out]; exact hlt2.out⟩
end Go.Proofs.Ytknnnjnnphdipaa
