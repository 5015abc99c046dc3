/- The bounds and the example of the statements on reclaiming. -/
import Derived.Test.YtknnnjnnphdipaaRcBagOf
namespace Go.Proofs.Ytknnnjnnphdipaa
open Go.ChangeShapes Go.WideShapes Go.ChangeAt Go.RowKit Go.Maps
/-- A guarded load of a bag, where the guard's operation has yielded what it asks. -/
theorem wpList_loadBagG {ops : Array Oper} {rest : List Oper} {d k gi : Nat} {gb : Bool} {ty : TypeId} {pos : String} {after : Array _} {a : Act} {w : World} {Q : Exit → Act → World → Prop} (g : Nat) (cs : Array Value) (t : TypeId)
    (hw : Region.wanted ⟨some d, .load 29 (.tmp k), ty, pos, after, some (gi, gb)⟩ (yielded ops a.tmps) = true)
    (hx : a.eval (.tmp k) = .pointer (some ⟨g, 0, none⟩)) (hg : Box w g cs t) (hs : cs.size = 193) (h : wpList Try.prog ops Q rest (a.put (some d) (.agg cs)) w) :
    wpList Try.prog ops Q (⟨some d, .load 29 (.tmp k), ty, pos, after, some (gi, gb)⟩ :: rest) a w :=
  wpList_step fun K hK => by
    rw [if_pos hw]
    exact wp_load_row 29 (.tmp k) rfl g hx t cs (0, 0) _ hg Try.underlying29 rfl (by rw [hs]; exact infoBag) (hK _ _ h)
def Few (n m p : Nat) (w : World) (e : Ending) (w' : World) : Prop := ∃ r, e = .returned (.bool r) ∧ w = w' ∧ (r = true → n ≤ 100 ∧ m ≤ 40 ∧ p ≤ 40)
set_option maxRecDepth 100000 in
set_option maxHeartbeats 1600000 in
theorem few_any (v u z : Value) (L : List It) (A P : List Int) (w : World) (hv : PS w v L) (hu : IS w u A) (hz : IS w z P) :
    Calls Try.prog 8 #[v, u, z] w (Few L.length A.length P.length w) := by
  obtain ⟨a1, c1, rfl⟩ := hv.form
  obtain ⟨a2, c2, rfl⟩ := hu.form
  obtain ⟨a3, c3, rfl⟩ := hz.form
  clear hv hu hz
  obtain ⟨n, hn⟩ : ∃ n, L.length = n := ⟨_, rfl⟩
  obtain ⟨m, hm⟩ : ∃ n, A.length = n := ⟨_, rfl⟩
  obtain ⟨p, hp⟩ : ∃ n, P.length = n := ⟨_, rfl⟩
  rw [hn, hm, hp]
  clear hn hm hp
  go_enter Try.func8, Try.ntmps8
  by_cases h1 : n ≤ 100
  · by_cases h2 : m ≤ 40
    · go_wp2_with fail
      go_ret
      exact ⟨decide ((p : Int) ≤ 40), rfl, rfl, fun h => ⟨h1, h2, by have := of_decide_eq_true h; omega⟩⟩
    · go_wp2_with fail
      go_ret
      exact ⟨false, rfl, rfl, fun h => by cases h⟩
  · go_wp2_with fail
    go_ret
    exact ⟨false, rfl, rfl, fun h => by cases h⟩
def Good (w : World) (e : Ending) (w' : World) : Prop := e = .returned (.bool true) ∧ Below w.heap.size w w'
def exI : List It := [(4, 1, 3), (5, 2, 6), (6, 5, 5)]
theorem ex_bag : bagL exI = exI := by decide
theorem ex_keep : exI.filter (protB [4] [7]) = [(5, 2, 6), (6, 5, 5)] := by decide
theorem ex_free (k : Int) : (∃ x ∈ exI, protB [4] [7] x = false ∧ x.1 = k) ↔ k ∈ ([4] : List Int) := by
  constructor
  · rintro ⟨x, hx, h1, rfl⟩
    simp [exI] at hx
    rcases hx with rfl | rfl | rfl <;> revert h1 <;> decide
  · intro h
    simp at h
    subst h
    exact ⟨(4, 1, 3), by decide, by decide, rfl⟩
theorem ex_bound : BoundS [4] [7] exI 2 := ⟨[4], [7], by decide, fun _ => Iff.rfl, by decide, fun _ => Iff.rfl, by decide⟩
set_option maxRecDepth 100000 in
set_option maxHeartbeats 6400000 in
theorem awake_any (w : World) : Calls Try.prog 9 #[] w (Good w) := by
  have ZS := Lib.hid zBag_size
  have zv := zero29
  go_enter Try.func9, Try.ntmps9
  go_upto_region 1 with fail
  go_wp2_with fail
  have HB := Lib.hid (bag_any _ exI _ (PS.ofBox (Box.new w #[.int .i64 4, .int .i64 1, .int .i64 3, .int .i64 5, .int .i64 2, .int .i64 6, .int .i64 6, .int .i64 5, .int .i64 5] 26 rfl) (L := exI) (n := 3) (cap := 3) rfl rfl (Nat.le_refl _)) (by decide))
  rw [ex_bag] at HB
  have BW := Lib.hid (below1 w (.cells #[.int .i64 4, .int .i64 1, .int .i64 3, .int .i64 5, .int .i64 2, .int .i64 6, .int .i64 6, .int .i64 5, .int .i64 5] 26))
  refine HB.out.mono ?_
  rintro e w1 ⟨c, rv, cv, rfl, hv, hr, hb⟩
  have V1 := Lib.hid hv
  have CS := Lib.hid hv.size
  obtain ⟨ra, rc, rfl⟩ := hr.form
  rw [show exI.length = 3 from rfl]
  replace BW := Lib.hid (BW.out.trans (hb.mono BW.out.size))
  clear hv hr hb HB
  go_upto_region 2 with (first
    | ((with_reducible refine wpList_storeBag w1.heap.size c zBag 29 ?_ ?_ ?_ ?_ ?_ ?_ ?_); rfl; rfl; exact Box.new w1 zBag 29 rfl; exact ZS.out; exact CS.out; exact V1.out.one)
    | fail)
  obtain ⟨q, hq⟩ : ∃ x, w1.heap.size = x := ⟨_, rfl⟩
  obtain ⟨W, hW⟩ : ∃ W, (w1.alloc (.cells zBag 29)).setRow q c = W := ⟨_, rfl⟩
  have B1 : Hid (Box W q c 29) := Lib.hid (by rw [← hW]; exact Box.rowSame (Box.new w1 zBag 29 hq.symm))
  have BW1 : Hid (Below w.heap.size w W) := Lib.hid (by rw [← hW]; exact below_row (BW.out.alloc BW.out.size _) (by have := BW.out.size; omega) _)
  rw [hq, hW]
  clear hW hq BW
  clear zv
  have zv := zero29
  have U1 := Lib.hid (IS.ofBox (L := [4]) (n := 1) (cap := 1) ((Box.new W #[.int .i64 4] 2 rfl).alloc (.cells #[.int .i64 7] 2)) rfl rfl (Nat.le_refl _))
  have U2 := Lib.hid (IS.ofBox (L := [7]) (n := 1) (cap := 1) (Box.new (W.alloc (.cells #[.int .i64 4] 2)) #[.int .i64 7] 2 rfl) rfl rfl (Nat.le_refl _))
  rw [show (W.alloc (.cells #[.int .i64 4] 2)).heap.size = W.heap.size + 1 by simp] at U2
  go_wp2_with (first
    | ((with_reducible refine wpList_loadBag q c 29 ?_ ?_ ?_ ?_); rfl; exact B1.out; exact CS.out)
    | fail)
  have BW2 := Lib.hid (((BW1.out.alloc BW1.out.size (.cells #[.int .i64 4] 2))).alloc (by simp; have := BW1.out.size; omega) (.cells #[.int .i64 7] 2))
  have B2 := Lib.hid ((B1.out.alloc (.cells #[.int .i64 4] 2)).alloc (.cells #[.int .i64 7] 2))
  have HS := Lib.hid (sweep_any c exI _ _ [4] [7] _ V1.out (by rw [← ex_bag]; exact bagL_good exI) U1.out U2.out (by simp) (by simp) (by unfold OkL I64; simp))
  refine HS.out.mono ?_
  rintro e w2 ⟨c2, fv, F, rfl, k1, k2, k3, k4, hb⟩
  obtain rfl : F = [4] := k3.ext (by unfold Inc; decide) (fun k => (k4 k).trans (ex_free k))
  rw [ex_keep] at k1
  obtain ⟨fa, fc, rfl, hfc⟩ := k2.form
  rw [show ([4] : List Int).length = 1 from rfl]
  have V2 := Lib.hid k1
  have CS2 := Lib.hid k1.size
  have R2 := Lib.hid k2
  have B3 := Lib.hid (B2.out.below hb)
  have BW3 := Lib.hid (BW2.out.trans (hb.mono BW2.out.size))
  clear k1 k2 k3 k4 hb B2 BW2 HS U1 U2 B1 BW1 hfc
  go_upto_region 3 with (first
    | ((with_reducible refine wpList_storeBag w2.heap.size c2 zBag 29 ?_ ?_ ?_ ?_ ?_ ?_ ?_); rfl; rfl; exact Box.new w2 zBag 29 rfl; exact ZS.out; exact CS2.out; exact V2.out.one)
    | fail)
  obtain ⟨r, hr⟩ : ∃ x, w2.heap.size = x := ⟨_, rfl⟩
  obtain ⟨X, hX⟩ : ∃ W, (w2.alloc (.cells zBag 29)).setRow r c2 = W := ⟨_, rfl⟩
  have lt3 := B3.out.lt
  have B4 : Hid (Box X q c 29) := Lib.hid (by rw [← hX]; exact (B3.out.alloc _).row (by omega))
  have K4 : Hid (Box X r c2 29) := Lib.hid (by rw [← hX]; exact Box.rowSame (Box.new w2 zBag 29 hr.symm))
  have BW4 : Hid (Below w.heap.size w X) := Lib.hid (by rw [← hX]; exact below_row (BW3.out.alloc BW3.out.size _) (by have := BW3.out.size; omega) _)
  have I4 : Hid (IS X (.slice fa 1 fc) [4]) := Lib.hid (by rw [← hX]; exact Row.is (own_row (R2.out.below (below1 w2 (.cells zBag 29))) (Box.new w2 zBag 29 hr.symm) (by decide)))
  rw [hr, hX]
  clear hr hX BW3 B3 lt3 R2
  obtain ⟨fb, foff, rfl, hfb, hcell⟩ := I4.out.addr (k := 0) (by omega)
  have C0 := Lib.hid (hcell 0 (by omega))
  clear hcell
  go_wp2_with (first
    | ((with_reducible refine wpList_loadBag r c2 29 ?_ ?_ ?_ ?_); rfl; exact K4.out; exact CS2.out)
    | ((with_reducible refine wpList_loadBagG r c2 29 ?_ ?_ ?_ ?_ ?_); rfl; rfl; exact K4.out; exact CS2.out)
    | fail)
  refine (len_any c2 _ X V2.out).mono ?_
  rintro e w3 ⟨rfl, hb⟩
  rw [show ([(5, 2, 6), (6, 5, 5)] : List It).length = 2 from rfl]
  have c0 := (hb.cell (p := ⟨fb, _, none⟩) hfb).trans C0.out
  have B5 := Lib.hid (B4.out.below hb)
  have BW5 := Lib.hid (BW4.out.trans (hb.mono BW4.out.size))
  have U1 := Lib.hid (IS.ofBox (L := [4]) (n := 1) (cap := 1) ((Box.new w3 #[.int .i64 4] 2 rfl).alloc (.cells #[.int .i64 7] 2)) rfl rfl (Nat.le_refl _))
  have U2 := Lib.hid (IS.ofBox (L := [7]) (n := 1) (cap := 1) (Box.new (w3.alloc (.cells #[.int .i64 4] 2)) #[.int .i64 7] 2 rfl) rfl rfl (Nat.le_refl _))
  rw [show (w3.alloc (.cells #[.int .i64 4] 2)).heap.size = w3.heap.size + 1 by simp] at U2
  have B6 := Lib.hid ((B5.out.alloc (.cells #[.int .i64 4] 2)).alloc (.cells #[.int .i64 7] 2))
  have BW6 := Lib.hid (((BW5.out.alloc BW5.out.size (.cells #[.int .i64 4] 2))).alloc (by simp; have := BW5.out.size; omega) (.cells #[.int .i64 7] 2))
  replace c0 : w3.cell? ⟨fb, foff + 0, none⟩ = some (.int .i64 4) := c0
  rw [Nat.add_zero] at c0
  clear hb B4 BW4 K4 I4 B5 BW5 hfb C0
  go_wp2_with (first
    | ((with_reducible refine wpList_loadBagG q c 29 ?_ ?_ ?_ ?_ ?_); rfl; rfl; exact B6.out; exact CS.out)
    | fail)
  clear c0
  obtain ⟨Y, hY⟩ : ∃ W, (w3.alloc (.cells #[.int .i64 4] 2)).alloc (.cells #[.int .i64 7] 2) = W := ⟨_, rfl⟩
  rw [hY] at U1 U2 B6 BW6 ⊢
  clear hY
  refine (items_any c exI Y V1.out).mono ?_
  rintro e w4 ⟨iv, rfl, hr, hb⟩
  obtain ⟨ia, ic, rfl⟩ := hr.form
  have U3 := Lib.hid (U1.out.below hb)
  have U4 := Lib.hid (U2.out.below hb)
  have BW7 := Lib.hid (BW6.out.trans (hb.mono BW6.out.size))
  have P4 := Lib.hid hr.ps
  clear hb hr U1 U2 B6 BW6
  go_wp2_with fail
  refine (bound_any _ _ _ [4] [7] exI w4 U3.out U4.out P4.out (by simp) (by simp) (by decide) (by unfold OkL I64; simp) (by unfold OkL I64; simp) (by unfold I64; decide)).mono ?_
  rintro e w5 ⟨n, rfl, hn, -, hb⟩
  obtain rfl := hn.uniq ex_bound
  have BW8 := Lib.hid (BW7.out.trans (hb.mono BW7.out.size))
  clear hb hn
  go_wp2_with fail
  go_ret
  exact ⟨rfl, BW8.out⟩
end Go.Proofs.Ytknnnjnnphdipaa
