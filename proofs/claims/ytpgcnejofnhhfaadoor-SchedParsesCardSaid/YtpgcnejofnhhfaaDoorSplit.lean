/- Split of package sched: the parts of a schedule between its crashes. -/
import Derived.Test.YtpgcnejofnhhfaaDoorStops
import Derived.Test.YtpgcnejofnhhfaaDoorParse
import Derived.Deep.RegionLaw
import Derived.OneCell
import Derived.RangeFuncBox
namespace Go.Proofs.YtpgcnejofnhhfaaDoor
open Go.ChangeShapes Go.WideShapes Go.ChangeAt Go.RowKit Go.Shelf Go.Maps

/-- One pick more: the parts that are done, and the one under way. -/
def splitStep (x : List (List Pk) × List Pk) (p : Pk) : List (List Pk) × List Pk := if p.1 = 2 then (x.1 ++ [x.2], []) else (x.1, x.2 ++ [p])
def splitGo (L : List Pk) : List (List Pk) × List Pk := L.foldl splitStep ([], [])
theorem splitGo_succ (L : List Pk) {k : Nat} (h : k < L.length) : splitGo (L.take (k + 1)) = splitStep (splitGo (L.take k)) (L.getD k zPk) := by
  unfold splitGo; rw [take_succ_getD L h, List.foldl_append]; rfl
theorem splitGo_len (L : List Pk) : ∀ k, k ≤ L.length → (splitGo (L.take k)).1.length ≤ k ∧ (splitGo (L.take k)).2.length ≤ k
  | 0, _ => by simp [splitGo]
  | k + 1, h => by
    rw [splitGo_succ L (by omega)]
    have := splitGo_len L k (by omega)
    unfold splitStep
    split
    · simp; omega
    · simp; omega
theorem info23 : (Tryd.prog.info? 23).map (fun i => (i.zero, i.size, i.bytes)) = some (some (.slice none 0 0), 1, 24) := by kernel_rfl
/-- Two rows of different element types lie in different blocks. -/
theorem rows_apart {w : World} {B C : Nat} {e f : TypeId} {s1 s2 : Nat} {u v : Value} {n m : Nat} {xs ys : List Value} (h : w.ownsRow B e s1 u n xs) (g : w.ownsRow C f s2 v m ys) (hef : e ≠ f) {b : Nat} (hb : u.ownBlock = some b) : v.ownBlock ≠ some b := by
  intro hv
  obtain ⟨-, ⟨h2, -⟩ | ⟨g1, c1, cur1, hu, -, hh1, -⟩⟩ := h
  · subst h2; cases hb
  obtain ⟨-, ⟨h2, -⟩ | ⟨g2, c2, cur2, hv2, -, hh2, -⟩⟩ := g
  · subst h2; cases hv
  subst hu hv2
  simp only [Value.ownBlock, Option.some.injEq] at hb hv
  subst hb hv
  rw [hh1] at hh2
  simp at hh2
  exact hef hh2.2
/-- The parts: the row of slices pv, the slices dv of what is done, the slice cv under way. -/
structure Parts (B : Nat) (w : World) (pv : Value) (dv : List Value) (cv : Value) (dn : List (List Pk)) (cur : List Pk) : Prop where
  r : w.ownsRow B 23 1 pv (dv.length + 1) (dv ++ [cv])
  l : dv.length = dn.length
  d : ∀ i v, dv[i]? = some v → Row 35 B w v (dn.getD i []) ∧ ∀ b, v.ownBlock = some b → cv.ownBlock ≠ some b
  c : Row 35 B w cv cur
theorem Parts.below {B : Nat} {w w1 : World} {pv : Value} {dv : List Value} {cv : Value} {dn : List (List Pk)} {cur : List Pk} (h : Parts B w pv dv cv dn cur) (hb : Below w.heap.size w w1) : Parts B w1 pv dv cv dn cur :=
  ⟨row_below h.r hb, h.l, fun i v hv => ⟨(h.d i v hv).1.below hb, (h.d i v hv).2⟩, h.c.below hb⟩
def HeadQ (w : World) (L : List Pk) (pv iv : Value) (wr : World) : Prop :=
  ∃ (k : Nat) (dv : List Value) (cv : Value), k ≤ L.length ∧ iv = .int .i64 k ∧ Parts w.heap.size wr pv dv cv (splitGo (L.take k)).1 (splitGo (L.take k)).2 ∧ Below w.heap.size w wr
/-- A new slice lies in a block of its own. -/
theorem nil_new (w : World) (t : TypeId) {n : Nat} (hn : n = w.heap.size) : ∀ j u, ([.slice none 0 0] : List Value)[j]? = some u → (w.alloc (.cells #[.slice none 0 0] t)).cell? ((⟨n, 0, none⟩ : Addr).add j) = some u := by
  subst hn
  intro j u h
  match j, h with
  | 0, h => simp at h; subst h; simp [go_sem, Addr.add]
theorem nil_one : ∀ u ∈ ([.slice none 0 0] : List Value), u.oneCell' = true := by
  intro u hu
  simp at hu
  subst hu; rfl
theorem Parts.first (w : World) : Parts w.heap.size (w.alloc (.cells #[.slice none 0 0] 23)) (.slice (some ⟨w.heap.size, 0, none⟩) 1 1) [] (.slice none 0 0) [] [] := by
  refine ⟨⟨rfl, .inr ⟨w.heap.size, 1, #[.slice none 0 0], rfl, Nat.le_refl _, heap_alloc_new .., Nat.le_refl _, by unfold maxLen; omega, rfl, rfl⟩⟩, rfl, fun i v hv => by simp at hv, Row.nil _ _ _⟩
/-- A crash: the part under way is done, the next one is empty. -/
theorem Parts.crash {B : Nat} {w w1 : World} {pv v' : Value} {dv : List Value} {cv : Value} {dn : List (List Pk)} {cur : List Pk} (h : Parts B w pv dv cv dn cur) (hg : w.grownBy w1 pv.ownBlock)
    (hown : w1.ownsRow B 23 1 v' (dv.length + 1 + 1) (dv ++ [cv] ++ [.slice none 0 0])) : Parts B w1 v' (dv ++ [cv]) (.slice none 0 0) (dn ++ [cur]) [] := by
  have keep : ∀ v m, Row 35 B w v m → Row 35 B w1 v m := fun v m hr => by
    refine World.ownsRow.kept hr hg ?_
    cases hv : v.ownBlock with
    | none => exact .inl rfl
    | some b => exact .inr (fun e => rows_apart hr h.r (by decide) hv e.symm)
  refine ⟨by simpa using hown, by simp [h.l], fun i v hv => ⟨?_, fun b _ => by simp [Value.ownBlock]⟩, Row.nil _ _ _⟩
  rcases Nat.lt_or_ge i dv.length with hi | hi
  · rw [List.getElem?_append_left hi] at hv
    have := keep _ _ (h.d i v hv).1
    rwa [List.getD_eq_getElem?_getD, List.getElem?_append_left (by rw [← h.l]; exact hi), ← List.getD_eq_getElem?_getD]
  · rw [List.getElem?_append_right hi] at hv
    have hi2 : i = dv.length := by
      have := (List.getElem?_eq_some_iff.1 hv).1
      simp at this; omega
    subst hi2
    simp at hv
    subst hv
    have := keep _ _ h.c
    rwa [List.getD_eq_getElem?_getD, h.l, List.getElem?_append_right (Nat.le_refl _), Nat.sub_self]
theorem row_cell {w : World} {B g n cap : Nat} {e : TypeId} {xs : List Value} (h : w.ownsRow B e 1 (.slice (some ⟨g, 0, none⟩) n cap) n xs) {i : Nat} {v : Value} (hv : xs[i]? = some v) : w.cell? ⟨g, i, none⟩ = some v ∧ w.frozen? ⟨g, i, none⟩ = false := by
  have hi : i < n := by have := (List.getElem?_eq_some_iff.1 hv).1; have := h.1; omega
  refine ⟨(World.ownsRow.cellAt h i (by omega)).trans hv, ?_⟩
  obtain ⟨-, ⟨h2, -⟩ | ⟨g2, c2, cur2, hv2, -, hh2, -⟩⟩ := h
  · cases h2
  · cases hv2
    unfold World.frozen?
    simp [hh2]
theorem row_set {w : World} {B g n cap d : Nat} {e : TypeId} {xs : List Value} {cv : Value} (h : w.ownsRow B e 1 (.slice (some ⟨g, 0, none⟩) n cap) n (xs ++ [cv])) (hd : d = xs.length) (u : Value) : (w.setCell ⟨g, d, none⟩ u).ownsRow B e 1 (.slice (some ⟨g, 0, none⟩) n cap) n (xs ++ [u]) := by
  subst hd
  obtain ⟨h1, ⟨h2, -⟩ | ⟨g2, c2, cur2, hv2, hB, hh, k1, k2, k3, k4⟩⟩ := h
  · cases h2
  · cases hv2
    refine ⟨by simpa using h1, .inr ⟨g, cap, cur2.setIfInBounds xs.length u, rfl, hB, Box.set (show Box w g cur2 e from hh) _ _, k1, k2, by simpa using k3, ?_⟩⟩
    rw [Array.toList_setIfInBounds, List.take_set, k4]
    simp
theorem Parts.apart {B : Nat} {w : World} {pv : Value} {dv : List Value} {cv : Value} {dn : List (List Pk)} {cur : List Pk} (h : Parts B w pv dv cv dn cur) : pv.ownBlock = none ∨ pv.ownBlock ≠ cv.ownBlock := by
  cases hp : pv.ownBlock with
  | none => exact .inl rfl
  | some b => exact .inr (fun e => rows_apart h.r h.c (by decide) hp e.symm)
theorem Parts.add {B H pg g n gc pcap : Nat} {W w2 : World} {dv : List Value} {cv : Value} {dn : List (List Pk)} {cur : List Pk} {p : Pk} (h : Parts B W (.slice (some ⟨pg, 0, none⟩) (dv.length + 1) pcap) dv cv dn cur)
    (hg : W.grownBy w2 cv.ownBlock) (hH : W.heap.size = H) (hat : cv.ownBlock = some g ∨ g = H) (ho : Row 35 B w2 (.slice (some ⟨g, 0, none⟩) n gc) (cur ++ [p])) :
    Parts B (w2.setCell ⟨pg, dv.length, none⟩ (.slice (some ⟨g, 0, none⟩) n gc)) (.slice (some ⟨pg, 0, none⟩) (dv.length + 1) pcap) dv (.slice (some ⟨g, 0, none⟩) n gc) dn (cur ++ [p]) := by
  have hr := World.ownsRow.kept h.r hg h.apart
  refine ⟨row_set hr rfl _, h.l, fun i v hv => ?_, ?_⟩
  · obtain ⟨d1, d2⟩ := h.d i v hv
    have d3 : Row 35 B w2 v (dn.getD i []) := World.ownsRow.kept d1 hg (by
      cases hb : v.ownBlock with
      | none => exact .inl rfl
      | some b => exact .inr (fun e => d2 b hb e.symm))
    refine ⟨ownsRow_setCell_other d3 (a := ⟨pg, dv.length, none⟩) (fun e => rows_apart d3 hr (by decide) e rfl) _, fun b hb e => ?_⟩
    simp only [Value.ownBlock, Option.some.injEq] at e
    subst e
    rcases hat with hat | hat
    · exact d2 _ hb hat
    · have := (World.ownsRow.lt d1 _ hb).2
      omega
  · exact ownsRow_setCell_other ho (a := ⟨pg, dv.length, none⟩) (fun e => rows_apart ho hr (by decide) e rfl) _
set_option maxRecDepth 100000 in
set_option maxHeartbeats 3200000 in
theorem parts_any (v : Value) (L : List Pk) (w : World) (hl : L.length ≤ 10000) (h : PS w v L) : Calls Tryd.prog 23 #[v] w fun e w' => ∃ u dv cv, e = .returned u ∧ Parts w.heap.size w' u dv cv (splitGo L).1 (splitGo L).2 ∧ Below w.heap.size w w' := by
  obtain ⟨i0, hi, hz0, hz1, hz2⟩ := info_parts info35
  obtain ⟨j0, hj, hy0, hy1, hy2⟩ := info_parts info23
  obtain ⟨a, cap, rfl, h⟩ := h
  have H := Lib.hid h
  clear h
  obtain ⟨n, hn⟩ : ∃ n, L.length = n := ⟨_, rfl⟩
  rw [hn]
  rw [hn] at hl
  go_enter Tryd.func23, Tryd.ntmps23
  go_wp2_with fail
  go_loopw [3, 10] (fun pv iv wr => HeadQ w L pv iv wr) (fun _ iv _ => n - (intOf iv).toNat)
  case atStart => exact ⟨0, [], .slice none 0 0, by omega, rfl, Parts.first w, below1 _ _⟩
  case round =>
    obtain ⟨k, dv, cv, hk, rfl, hp, hb⟩ := hrel
    rw [hn] at hk
    have P := Lib.hid hp
    have BB := Lib.hid hb
    have hws := hb.size
    clear hp hb
    obtain ⟨pg, pcap, hpv⟩ := ownsRow_succ P.out.r
    subst hpv
    by_cases hlt : k < n
    · rcases H.out with h | ⟨b0, off, rfl, hb0, hc⟩
      · subst h; simp at hn; omega
      obtain ⟨c0, c1, c2⟩ := hc k (by omega)
      rw [← BB.out.cell hb0] at c0 c1 c2
      have HS := Lib.hid (splitGo_succ L (k := k) (by omega))
      have HLN := splitGo_len L k (by omega)
      clear hc
      rw [← getD_eta L k] at HS
      generalize (L.getD k zPk).1 = x0 at *
      generalize (L.getD k zPk).2.1 = x1 at *
      generalize (L.getD k zPk).2.2 = x2 at *
      obtain ⟨l1, l2⟩ := HLN
      have HX := Lib.hid (show splitGo (L.take k) = ((splitGo (L.take k)).1, (splitGo (L.take k)).2) from rfl)
      rw [HX.out] at HS
      clear HX
      generalize (splitGo (L.take k)).1 = dn at *
      generalize (splitGo (L.take k)).2 = cur at *
      have hdl : dv.length ≤ 10000 := by rw [P.out.l]; omega
      have hbs := below1 wr (.cells #[.int .i64 x0, .int .i64 x1, .int .i64 x2] 35)
      have P1 := Lib.hid (P.out.below hbs)
      have B1 := Lib.hid (BB.out.trans (hbs.mono hws))
      have X1 : Hid (Box (wr.alloc (.cells #[.int .i64 x0, .int .i64 x1, .int .i64 x2] 35)) wr.heap.size #[.int .i64 x0, .int .i64 x1, .int .i64 x2] 35) := Lib.hid (Box.new wr _ 35 rfl)
      have hws1 := B1.out.size
      clear P BB
      by_cases hx0 : x0 = 2
      · subst hx0
        have e : splitGo (L.take (k + 1)) = (dn ++ [cur], []) := by rw [HS.out]; simp [splitStep]
        go_wp2_with (first
          | (at_builtin; refine wpList_append_own _ rfl (.tmp 17) (.tmp 18) 49 rfl w.heap.size 23 j0 (.slice none 0 0) 1 24 Tryd.underlying49 hj hy0 hy1 hy2 rfl (by decide) _ _ _ rfl (P1.out.below (below1 _ _)).r ⟨wr.heap.size + 1, 0, none⟩ 1 1 [.slice none 0 0] rfl rfl (nil_new _ _ (by simp)) nil_one (by unfold maxLen; omega) (by omega) (by simp; omega) ?_; intro v' w2 hown hgrow _; have PN := Lib.hid ((P1.out.below (below1 _ _)).crash hgrow hown); have BN := Lib.hid ((B1.out.alloc hws1 _).grown hgrow (by simp; omega) (fun j hj => (World.ownsRow.lt P1.out.r j hj).1)); clear hown hgrow)
          | go_in)
        go_roundw
        case rel => exact ⟨k + 1, _, _, by omega, by go_num, by rw [e]; exact PN.out, BN.out⟩
        case measure => simp [intOf]; omega
      · have hx0b : (x0 == 2) = false := by rw [beq_eq_false_iff_ne]; exact hx0
        go_wp2_with fail
        clear c0 c1 c2
        generalize wr.alloc (.cells #[.int .i64 x0, .int .i64 x1, .int .i64 x2] 35) = W1 at *
        generalize wr.heap.size = bp at *
        obtain ⟨⟨m0, m1, m2⟩, n0, n1, n2⟩ := X1.out.cells3
        obtain ⟨q0, q1⟩ := row_cell P1.out.r (i := dv.length) (v := cv) (by simp)
        have y0 : (0 : Int) ≤ (dv.length : Int) := by omega
        have y1 : (dv.length : Int) < (dv.length : Int) + 1 := by omega
        have y2 : IntKind.i64.wrap (dv.length : Int) = (dv.length : Int) := IntWalk.i64_in _ ⟨by omega, by omega⟩
        have P2 := Lib.hid ((P1.out.below (below1 W1 (.cells #[.int .i64 x0, .int .i64 x1, .int .i64 x2] 35))).below (Below.refl _ _).drew)
        obtain ⟨q2, q3⟩ := row_cell (P1.out.below (below1 W1 (.cells #[.int .i64 x0, .int .i64 x1, .int .i64 x2] 35))).r (i := dv.length) (v := cv) (by simp)
        go_region_law (refine step_append_lies _ rfl (.tmp 28) (.tmp 30) 23 rfl w.heap.size 35 i0 (.agg #[.int .i64 0, .int .i64 0, .int .i64 0]) 3 24 Tryd.underlying23 hi hz0 hz1 hz2 rfl (by decide) cv cur.length (flat cur) rfl (Row.below (Row.below P1.out.c (Below.refl _ _).drew) (below1 _ _)) ⟨W1.heap.size, 0, none⟩ 1 1 [.int .i64 x0, .int .i64 x1, .int .i64 x2] rfl rfl (tri_new' _ _ _ _ _ rfl) (tri_one _ _ _) (by decide) (by unfold maxLen; omega) (by omega) (by simp; omega) (W1.heap.size + 1) (by simp) ?_; intro g gcap w2 hown hgrow hat hlt2; obtain ⟨t0, t1⟩ := row_cell (World.ownsRow.kept P2.out.r hgrow P2.out.apart) (i := dv.length) (v := cv) (by simp); have PN := Lib.hid (P2.out.add hgrow (by simp) hat (row_snoc hown)); have BN := Lib.hid (((B1.out.alloc hws1 (.cells #[.int .i64 x0, .int .i64 x1, .int .i64 x2] 35)).drew).grown hgrow (by simp; omega) (fun j hj => (World.ownsRow.lt P1.out.c j hj).1)); clear hown hgrow hat hlt2)
        all_goals (
          have e : splitGo (L.take (k + 1)) = (dn, cur ++ [(x0, x1, x2)]) := by rw [HS.out]; simp [splitStep, hx0]
          go_wp2_with fail
          go_roundw
          · exact ⟨k + 1, dv, _, by omega, by go_num, by rw [e]; exact PN.out, below_set BN.out (World.ownsRow.lt P1.out.r pg rfl).1 _ _⟩
          · simp [intOf]; omega)
    · go_wp2_with fail
      go_ret
      have htk : L.take k = L := List.take_of_length_le (by omega)
      rw [htk] at P
      exact ⟨_, dv, cv, rfl, P.out, BB.out⟩
end Go.Proofs.YtpgcnejofnhhfaaDoor
