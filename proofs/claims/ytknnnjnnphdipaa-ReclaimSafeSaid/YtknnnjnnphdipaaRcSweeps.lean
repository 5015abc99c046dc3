/- The walk through ReclaimSweeps. -/
import Derived.Test.YtknnnjnnphdipaaRcInWay
import Derived.Test.YtknnnjnnphdipaaRcBounds
import Derived.Maps.OwnSet
namespace Go.Proofs.Ytknnnjnnphdipaa
open Go.ChangeShapes Go.WideShapes Go.ChangeAt Go.RowKit Go.Maps
theorem lawN : Keyed Try.prog 3 := int_keyed Try.underlying3
theorem key_intN (p : Int) (h : I64 p) : keyOf Try.prog 3 (.int .i64 p) = some (.int .i64 p) := keyOf_int_mk Try.underlying3 (WalkArith.wf_i64 (by unfold I64 at h; omega))
/-- The map in block b says true of the members of S, that are all different. -/
def MapN (w : World) (b : Nat) (S : List Int) : Prop :=
  ∃ D, w.ownsMap Try.prog 3 (plainElem (H := Unit) Try.prog 4) b S.length D ∧ Tidy D ∧ size D = S.length ∧ (∀ x, has D (.int .i64 x) = inL S x) ∧ ∀ x, D.atKey (.int .i64 x) (.lit (.bool false)) = .lit (.bool (inL S x))
theorem MapN.made (w : World) : MapN (w.alloc (.map #[] 0)) w.heap.size [] := ⟨_, World.ownsMap_made w Try.prog 3 _, tidy_empty, rfl, fun _ => rfl, fun _ => rfl⟩
theorem owns_belowN {w w1 : World} {b n : Nat} {D : DataW Unit} {R : Value → Option (DataW Unit × List MemPlace)} (h : w.ownsMap Try.prog 3 R b n D) (hb : Below w.heap.size w w1) : w1.ownsMap Try.prog 3 R b n D := owns_below h hb
theorem MapN.lt {w : World} {b : Nat} {S : List Int} (h : MapN w b S) : b < w.heap.size := by
  obtain ⟨D, h1, _⟩ := h; exact h1.lt
theorem MapN.below {w w1 : World} {b : Nat} {S : List Int} (h : MapN w b S) (hb : Below w.heap.size w w1) : MapN w1 b S := by
  obtain ⟨D, h1, h2⟩ := h
  exact ⟨D, owns_below h1 hb, h2⟩
theorem MapN.kept {w w1 : World} {b : Nat} {S : List Int} {row : Option Nat} (h : MapN w b S) (hg : w.grownBy w1 row) (hne : some b ≠ row) : MapN w1 b S := by
  obtain ⟨D, h1, h2⟩ := h
  exact ⟨D, h1.kept hg hne, h2⟩
theorem MapN.look {w : World} {b : Nat} {S : List Int} (h : MapN w b S) (x : Int) (hx : I64 x) : (Instr.lookup 42 (.map (some b)) (.int .i64 x) false).run Try.prog w = .ok (.bool (inL S x)) w := by
  obtain ⟨D, h1, h2, _, _, h3⟩ := h
  obtain ⟨v, ps, hrun, hv⟩ := h1.lookup lawN Try.underlying42 (zeroB w) (plainElem_bool Try.underlying4 false) (key_intN x hx)
  rw [h3] at hv
  have : v = .bool (inL S x) := by
    unfold plainElem at hv
    rw [Try.underlying4] at hv
    cases v <;> simp at hv
    rw [hv.1]
  rw [this] at hrun
  exact hrun
theorem MapN.len {w : World} {b : Nat} {S : List Int} (h : MapN w b S) (ty : TypeId) : (Builtin.len_ #[42] ty #[.map (some b)]).run Try.prog w = .ok (.int .i64 S.length) w := by
  obtain ⟨D, h1, _, h3, _⟩ := h
  rw [h1.len Try.underlying42 ty, h3]
theorem wpList_markN (w : World) {ops : Array Oper} {rest : List Oper} {o : Oper} {a : Act} {Q : Exit → Act → World → Prop}
    (hg : o.guard = none) (m x v : Operand) (hop : o.op = Op.mapUpdate 42 m x v) (b : Nat) (S : List Int) (hm : a.eval m = .map (some b)) (hown : MapN w b S) (hn : S.length < 100000) (y : Int) (hx : a.eval x = .int .i64 y) (hv : a.eval v = .bool true) (hy : I64 y) (hnew : y ∉ S)
    (hK : ∀ w', MapN w' b (S ++ [y]) → w.grownBy w' (some b) → wpList Try.prog ops Q rest (a.put o.dst undef) w') : wpList Try.prog ops Q (o :: rest) a w := by
  obtain ⟨D, h1, h2, h4, h3, h5⟩ := hown
  have hno : inL S y = false := by
    cases h : inL S y with
    | false => rfl
    | true => exact absurd ((inL_iff S y).1 h) hnew
  refine wpList_mapUpdate_own w hg m x v 42 hop 3 4 lawN Try.underlying42 _ b S.length D hm h1 (by unfold maxLen; omega) _ _ _ hx hv (key_intN y hy) _ [] (plainElem_bool Try.underlying4 true) fun w' g1 g2 => hK w' ⟨_, by rw [List.length_append]; exact g1, h2.put (isKey _) _, ?_, fun z => ?_, fun z => ?_⟩ g2
  · rw [size_put h2, h3 y, hno, h4]; simp
  · rw [inL_app]
    by_cases e : z = y
    · subst e
      rw [has_put_same h2.isMap (isKey _)]; simp
    · rw [has_put_other (ne_key e), h3 z]
      have : (y == z) = false := by rw [beq_eq_false_iff_ne]; exact fun h => e h.symm
      rw [this, Bool.or_false]
  · rw [inL_app]
    by_cases e : z = y
    · subst e
      rw [atKey_put_same h2.isMap (isKey _)]; simp
    · rw [atKey_put_other (ne_key e), h5 z]
      have : (y == z) = false := by rw [beq_eq_false_iff_ne]; exact fun h => e h.symm
      rw [this, Bool.or_false]
theorem run_mkmapN (w : World) : (Instr.makeMap 42 none).run Try.prog w = .ok (.map (some w.heap.size)) (w.alloc (.map #[] 0)) := by
  simp [Instr.makeMap]
theorem below_markN {w w1 wr : World} {B b : Nat} (hnx : Below B w wr) (hB : B ≤ wr.heap.size) (hb : B ≤ b) (hg : wr.grownBy w1 (some b)) : Below B w w1 := below_mark hnx hB hb hg
theorem Row3.kept {B b : Nat} {w w1 : World} {v : Value} {L : List It} {S : List Int} (h : Row3 35 B w v L) (hm : MapN w b S) (hg : w.grownBy w1 (some b)) : Row3 35 B w1 v L := by
  obtain ⟨D, ⟨es, clock, hb, _⟩, _⟩ := hm
  obtain ⟨h1, h2 | ⟨g, cap, cur, hv, hB, hh, r⟩⟩ := h
  · exact ⟨h1, .inl h2⟩
  · refine ⟨h1, .inr ⟨g, cap, cur, hv, hB, (hg.block g (lt_block hh) ?_).trans hh, r⟩⟩
    intro q
    have q' : g = b := by simpa using q
    subst q'
    rw [hh] at hb
    cases hb
theorem MapN.app {w w1 : World} {b B : Nat} {S : List Int} {v : Value} {L : List It} (h : MapN w b S) (hr : Row3 35 B w v L) (hg : w.grownBy w1 v.ownBlock) : MapN w1 b S := by
  refine h.kept hg ?_
  intro q
  obtain ⟨D, ⟨es, clock, hb, _⟩, _⟩ := h
  obtain ⟨h1, ⟨h2, _⟩ | ⟨g, cap, cur, hv, hB, hh, r⟩⟩ := hr
  · rw [h2] at q; cases q
  · rw [hv] at q
    have q' : b = g := by simpa [Value.ownBlock] using q
    subst q'
    rw [hh] at hb
    cases hb
theorem freeL_new {L : List It} (h : Good6 L) (A P : List Int) {k : Nat} (hk : k < L.length) : (L.getD k zIt).1 ∉ freeL A P (L.take k) := by
  intro hm
  obtain ⟨x, hx, _, he⟩ := (mem_freeL (A := A) (P := P) (L := L.take k) _).1 hm
  have hn := h.1
  rw [← List.take_append_drop k L, List.map_append, List.nodup_append] at hn
  refine hn.2.2 x.1 (List.mem_map.2 ⟨x, hx, rfl⟩) (L.getD k zIt).1 (List.mem_map.2 ⟨_, ?_, rfl⟩) he
  rw [List.drop_eq_getElem_cons hk, List.getD, List.getElem?_eq_getElem hk]
  exact List.mem_cons_self
theorem len_free {L : List It} (h : Good6 L) {A P F : List Int} (hF : Inc F) (hm : ∀ k, k ∈ F ↔ ∃ x ∈ L, protB A P x = false ∧ x.1 = k) : F.length = (freeL A P L).length := by
  have := sumF_eq (fun _ => 1) F (freeL A P L) hF.nd (freeL_nd h A P) (fun k => (hm k).trans (mem_freeL k).symm)
  rw [sum_one, sum_one] at this
  exact this
theorem Inc.step {F : List Int} (h : Inc F) {j : Nat} (hj : j + 1 < F.length) : F.getD j 0 < F.getD (j + 1) 0 := by
  have := List.pairwise_iff_getElem.1 h j (j + 1) (by omega) hj (by omega)
  rw [List.getD, List.getD, List.getElem?_eq_getElem (by omega), List.getElem?_eq_getElem hj]
  exact this
set_option maxRecDepth 100000 in
set_option maxHeartbeats 6400000 in
theorem sweeps_walk (v u z : Value) (l : List It) (A P : List Int) (w : World) (hv : PS w v l) (hu : IS w u A) (hz : IS w z P) (_ : OkL A) (op : OkL P) : Calls Try.prog 4 #[v, u, z] w (Good w) := by
  have HV := Lib.hid hv
  have HU := Lib.hid hu
  have HZ := Lib.hid hz
  have OP := Lib.hid op
  obtain ⟨a1, c1, rfl⟩ := hv.form
  obtain ⟨a2, c2, rfl⟩ := hu.form
  obtain ⟨a3, c3, rfl⟩ := hz.form
  clear hv hu hz op
  obtain ⟨n1, hn1⟩ : ∃ n, l.length = n := ⟨_, rfl⟩
  obtain ⟨n2, hn2⟩ : ∃ n, A.length = n := ⟨_, rfl⟩
  obtain ⟨n3, hn3⟩ : ∃ n, P.length = n := ⟨_, rfl⟩
  rw [hn1] at HV ⊢
  rw [hn2] at HU ⊢
  rw [hn3] at HZ ⊢
  have H1 := Lib.hid hn1
  have H2 := Lib.hid hn2
  have H3 := Lib.hid hn3
  clear hn1 hn2 hn3
  have ZS := Lib.hid zBag_size
  go_enter Try.func4, Try.ntmps4
  go_wp2_with fail
  refine (few_any _ _ _ l A P w HV.out HU.out HZ.out).mono ?_
  rintro e w' ⟨r, rfl, rfl, hr⟩
  rw [H1.out, H2.out, H3.out] at hr
  cases r with
  | false =>
    clear hr
    go_wp2_with fail
    refine (awake_any w).mono ?_
    rintro e w1 ⟨rfl, hb⟩
    have BB := Lib.hid hb
    clear hb
    go_wp2_with fail
    go_ret
    exact ⟨rfl, BB.out⟩
  | true =>
    obtain ⟨l1, l2, l3⟩ := hr rfl
    clear hr
    have zv := zero29
    go_wp2_with fail
    refine (bag_any _ l w HV.out (by rw [H1.out]; omega)).mono ?_
    rintro e w1 ⟨c, rv, cv, rfl, kv, kr, kb⟩
    have HG := Lib.hid (bagL_good l)
    obtain ⟨L, hL⟩ : ∃ L, bagL l = L := ⟨_, rfl⟩
    rw [hL] at kv kr HG
    clear hL
    have hL64 := kv.len
    have V1 := Lib.hid kv
    have CS := Lib.hid kv.size
    have R1 := Lib.hid kr
    have BW := Lib.hid kb
    obtain ⟨ra, rc, rfl⟩ := kr.form
    obtain ⟨m, hm⟩ : ∃ m, L.length = m := ⟨_, rfl⟩
    rw [hm] at R1 hL64 ⊢
    have HM := Lib.hid hm
    clear kv kr kb hm
    go_upto_region 4 with (first
      | ((with_reducible refine wpList_storeBag w1.heap.size c zBag 29 ?_ ?_ ?_ ?_ ?_ ?_ ?_); rfl; rfl; exact Box.new w1 zBag 29 rfl; exact ZS.out; exact CS.out; exact V1.out.one)
      | fail)
    obtain ⟨q, hq⟩ : ∃ x, w1.heap.size = x := ⟨_, rfl⟩
    obtain ⟨W, hW⟩ : ∃ W, (w1.alloc (.cells zBag 29)).setRow q c = W := ⟨_, rfl⟩
    have B1 : Hid (Box W q c 29) := Lib.hid (by rw [← hW]; exact Box.rowSame (Box.new w1 zBag 29 hq.symm))
    have BW1 : Hid (Below w.heap.size w W) := Lib.hid (by rw [← hW]; exact below_row (BW.out.alloc BW.out.size _) (by have := BW.out.size; omega) _)
    have R2 : Hid (PS W (.slice ra m rc) L) := Lib.hid (by rw [← hW]; exact Row3.ps (own_row (R1.out.below (below1 w1 (.cells zBag 29))) (Box.new w1 zBag 29 hq.symm) (by decide)))
    rw [hq, hW]
    clear hW hq BW R1 zv
    have U1 := Lib.hid (HU.out.below BW1.out)
    have Z1 := Lib.hid (HZ.out.below BW1.out)
    clear HU HZ HV
    have mk := run_mkmapN
    go_wp2_with fail
    clear mk
    obtain ⟨g, hg⟩ : ∃ x, W.heap.size = x := ⟨_, rfl⟩
    obtain ⟨X, hX⟩ : ∃ X, W.alloc (.map #[] 0) = X := ⟨_, rfl⟩
    have M0 : Hid (MapN X g []) := Lib.hid (by rw [← hX, ← hg]; exact MapN.made W)
    have BX : Hid (Below W.heap.size W X) := Lib.hid (by rw [← hX]; exact below1 W _)
    have HGQ := Lib.hid hg
    rw [hX, hg]
    clear hX hg
    go_loopw [10, 33] (fun sv iv wr => ∃ k : Nat, ∃ K S, k ≤ m ∧ iv = .int .i64 k ∧ Row3 35 W.heap.size wr sv K ∧ K = (L.take k).filter (protB A P) ∧ MapN wr g S ∧ S = freeL A P (L.take k) ∧ Below W.heap.size W wr) (fun _ iv _ => m - (intOf iv).toNat)
    case atStart => exact ⟨0, [], [], by omega, rfl, Row3.nil _ _ _, rfl, M0.out, rfl, BX.out⟩
    case round =>
      obtain ⟨k, K, S, hk, rfl, hR, hK, hM, hS, hb⟩ := hrel
      have SV := Lib.hid hR
      have HK := Lib.hid hK
      have MN := Lib.hid hM
      have HS := Lib.hid hS
      have BY := Lib.hid hb
      have hKl : K.length ≤ k := by rw [hK]; exact Nat.le_trans (List.length_filter_le _ _) (by rw [List.length_take]; omega)
      have hSl : S.length ≤ k := by rw [hS]; unfold freeL; rw [List.length_map]; exact Nat.le_trans (List.length_filter_le _ _) (by rw [List.length_take]; omega)
      obtain ⟨sa, sc, rfl⟩ := hR.form
      obtain ⟨p, hp⟩ : ∃ p, K.length = p := ⟨_, rfl⟩
      rw [hp] at SV hKl ⊢
      have HP := Lib.hid hp
      clear hR hK hM hS hb hp M0
      by_cases hlt : k < m
      · obtain ⟨b, off, rfl, hbl, hc⟩ := R2.out.addr hlt
        obtain ⟨c0, c1', c2'⟩ := hc k hlt
        rw [← BY.out.cell (p := ⟨b, _, none⟩) hbl] at c0 c1' c2'
        have hgood := HG.out.2 _ (getD_mem3 (L := L) (k := k) (by rw [HM.out]; exact hlt))
        have IW := Lib.hid (fun (W : World) vA vP (h1 : IS W vA A) (h2 : IS W vP P) => inway_any (L.getD k zIt) vA vP A P W h1 h2 (by rw [H2.out]; omega) (by rw [H3.out]; omega) (by omega))
        have hi64 : I64 (L.getD k zIt).1 := by unfold I64; omega
        have HF := Lib.hid (filter_succ (protB A P) L (k := k) (by rw [HM.out]; exact hlt))
        have HL := Lib.hid (freeL_succ A P L (k := k) (by rw [HM.out]; exact hlt))
        have HNEW := Lib.hid (freeL_new HG.out A P (k := k) (by rw [HM.out]; exact hlt))
        rw [← HS.out] at HNEW
        rw [← HK.out] at HF
        rw [← HS.out] at HL
        clear hc hgood
        obtain ⟨y, hy⟩ : ∃ y, L.getD k zIt = y := ⟨_, rfl⟩
        rw [hy] at c0 c1' c2' IW hi64 HF HL HNEW
        clear hy
        obtain ⟨r, hr⟩ : ∃ r, protB A P y = r := ⟨_, rfl⟩
        rw [hr] at IW HF HL
        clear hr
        unfold itV at IW
        obtain ⟨y0, y1, y2⟩ := y
        simp only at c0 c1' c2' IW hi64 HL HNEW
        obtain ⟨wo, rfl⟩ : ∃ wo, wo = wr := ⟨_, rfl⟩
        go_upto_region 9 with fail
        obtain ⟨W2, hW2⟩ : ∃ W2, wo.alloc (.cells #[.int .i64 y0, .int .i64 y1, .int .i64 y2] 35) = W2 := ⟨_, rfl⟩
        obtain ⟨xb, hxb⟩ : ∃ g, wo.heap.size = g := ⟨_, rfl⟩
        have XB : Hid (Box W2 xb #[.int .i64 y0, .int .i64 y1, .int .i64 y2] 35) := Lib.hid (by rw [← hW2]; exact Box.new wo _ 35 hxb.symm)
        have RI : Hid (Below wo.heap.size wo W2) := Lib.hid (by rw [← hW2]; exact below1 wo _)
        replace SV := Lib.hid (SV.out.below RI.out)
        replace MN := Lib.hid (MN.out.below RI.out)
        replace BY := Lib.hid (BY.out.trans (RI.out.mono BY.out.size))
        rw [hW2, hxb]
        clear hW2 hxb c0 c1' c2' RI
        have z0 := XB.out.cell 0
        have z1 := XB.out.cell 1
        have z2 := XB.out.cell 2
        simp at z0 z1 z2
        go_wp2_with fail
        refine (IW.out W2 _ _ (U1.out.below BY.out) (Z1.out.below BY.out)).mono ?_
        rintro e w3 ⟨rfl, hb⟩
        replace XB := Lib.hid (XB.out.below hb)
        replace SV := Lib.hid (SV.out.below hb)
        replace MN := Lib.hid (MN.out.below hb)
        replace BY := Lib.hid (BY.out.trans (hb.mono BY.out.size))
        clear hb z0 z1 z2 IW
        have z0 := XB.out.cell 0
        have z1 := XB.out.cell 1
        have z2 := XB.out.cell 2
        simp at z0 z1 z2
        cases r with
        | true =>
          have C3 := Lib.hid (PS.ofBox (Box.new w3 #[.int .i64 y0, .int .i64 y1, .int .i64 y2] 35 rfl) (L := [(y0, y1, y2)]) (n := 1) (cap := 1) rfl rfl (Nat.le_refl _))
          have RI := Lib.hid (below1 w3 (.cells #[.int .i64 y0, .int .i64 y1, .int .i64 y2] 35))
          replace SV := Lib.hid (SV.out.below RI.out)
          replace MN := Lib.hid (MN.out.below RI.out)
          replace BY := Lib.hid (BY.out.trans (RI.out.mono BY.out.size))
          clear RI HNEW
          go_wp2_with (first
            | (at_builtin; refine wpList_app3 Try.underlying30 infoR _ rfl (.tmp 41) (.tmp 43) rfl rfl BY.out SV.out rfl C3.out (by rw [HP.out]; simp; omega) ?_; intro v8 w8 r8 b8 g8; have M8 := Lib.hid (MN.out.app SV.out g8); have R8 := Lib.hid r8; have B8 := Lib.hid b8; clear r8 b8 g8)
            | fail)
          go_roundw
          case rel => exact ⟨k + 1, _, S, by omega, by go_num, R8.out, by rw [HF.out]; simp, M8.out, by rw [HL.out]; simp, B8.out⟩
          case measure => simp [intOf]; omega
        | false =>
          go_wp2_with (first
            | (at_mapUpdate; refine wpList_markN _ rfl _ _ _ rfl g S rfl MN.out (by omega) y0 rfl rfl hi64 HNEW.out ?_; intro w8 m8 g8; have M8 := Lib.hid m8; have R8 := Lib.hid (SV.out.kept MN.out g8); have B8 := Lib.hid (below_markN BY.out BY.out.size (Nat.le_of_eq HGQ.out) g8); clear m8 g8)
            | fail)
          go_roundw
          case rel => exact ⟨k + 1, K, _, by omega, by go_num, R8.out, by rw [HF.out]; simp, M8.out, by rw [HL.out]; simp, B8.out⟩
          case measure => simp [intOf]; omega
      · obtain rfl : k = m := by omega
        have LT : Hid (L.take k = L) := Lib.hid (List.take_of_length_le (by rw [HM.out]; exact Nat.le_refl _))
        rw [LT.out] at HK HS
        clear LT
        have BZ := Lib.hid (BW1.out.trans (BY.out.mono BW1.out.size))
        have B2 := Lib.hid (B1.out.below BY.out)
        have R3 := Lib.hid (R2.out.below BY.out)
        have U2 := Lib.hid (U1.out.below BY.out)
        have Z2 := Lib.hid (Z1.out.below BY.out)
        have SP := Lib.hid SV.out.ps
        clear B1 R2 U1 Z1 BY SV BX BW1
        have zv := zero29
        go_wp2_with (first
          | ((with_reducible refine wpList_loadBag q c 29 ?_ ?_ ?_ ?_); rfl; exact B2.out; exact CS.out)
          | fail)
        refine (sweep_any c L _ _ A P wr V1.out HG.out U2.out Z2.out (by rw [H2.out]; omega) (by rw [H3.out]; omega) OP.out).mono ?_
        rintro e w4 ⟨cd, fv, F, rfl, k1, k2, k3, k4, hb⟩
        rw [← HK.out] at k1
        have FL := Lib.hid (len_free HG.out k3 k4)
        rw [← HS.out] at FL
        have FM := Lib.hid (show ∀ x ∈ F, inL S x = true from fun x hx => (inL_iff S x).2 (by rw [HS.out]; exact (mem_freeL x).2 ((k4 x).1 hx)))
        have FI := Lib.hid k3
        have F6 := Lib.hid (show ∀ x ∈ F, I64 x from fun x hx => by
          obtain ⟨y, hy, _, rfl⟩ := (k4 x).1 hx
          have := HG.out.2 y hy
          unfold I64; omega)
        have V2 := Lib.hid k1
        have CS2 := Lib.hid k1.size
        obtain ⟨fa, fc, rfl, -⟩ := k2.form
        rw [FL.out]
        obtain ⟨f, hf⟩ : ∃ f, S.length = f := ⟨_, rfl⟩
        rw [hf] at FL hSl ⊢
        have HFL := Lib.hid hf
        clear hf
        have FV := Lib.hid k2.is
        rw [FL.out] at FV
        have B3 := Lib.hid (B2.out.below hb)
        have BZ2 := Lib.hid (BZ.out.trans (hb.mono BZ.out.size))
        have R4 := Lib.hid (R3.out.below hb)
        have SP2 := Lib.hid (SP.out.below hb)
        have MN2 := Lib.hid (MN.out.below hb)
        clear k1 k2 k3 k4 hb B2 BZ R3 SP MN U2 Z2
        go_upto_region 14 with (first
          | ((with_reducible refine wpList_storeBag w4.heap.size cd zBag 29 ?_ ?_ ?_ ?_ ?_ ?_ ?_); rfl; rfl; exact Box.new w4 zBag 29 rfl; exact ZS.out; exact CS2.out; exact V2.out.one)
          | fail)
        obtain ⟨r, hr⟩ : ∃ x, w4.heap.size = x := ⟨_, rfl⟩
        obtain ⟨Y, hY⟩ : ∃ W, (w4.alloc (.cells zBag 29)).setRow r cd = W := ⟨_, rfl⟩
        have K5 : Hid (Box Y r cd 29) := Lib.hid (by rw [← hY]; exact Box.rowSame (Box.new w4 zBag 29 hr.symm))
        have BY : Hid (Below w4.heap.size w4 Y) := Lib.hid (by rw [← hY]; exact below_row (below1 w4 _) (by omega) _)
        replace B3 := Lib.hid (B3.out.below BY.out)
        replace BZ2 := Lib.hid (BZ2.out.trans (BY.out.mono BZ2.out.size))
        replace R4 := Lib.hid (R4.out.below BY.out)
        replace SP2 := Lib.hid (SP2.out.below BY.out)
        replace MN2 := Lib.hid (MN2.out.below BY.out)
        replace FV := Lib.hid (FV.out.below BY.out)
        rw [hr, hY]
        clear hr hY BY zv
        go_wp2_with (first
          | ((with_reducible refine wpList_loadBag r cd 29 ?_ ?_ ?_ ?_); rfl; exact K5.out; exact CS2.out)
          | fail)
        refine (is_any cd K _ K Y V2.out SP2.out (by rw [HP.out]; omega)).mono ?_
        rintro e w5 ⟨rfl, hb⟩
        rw [decide_eq_true (Eq.refl K)]
        replace B3 := Lib.hid (B3.out.below hb)
        replace BZ2 := Lib.hid (BZ2.out.trans (hb.mono BZ2.out.size))
        replace R4 := Lib.hid (R4.out.below hb)
        replace MN2 := Lib.hid (MN2.out.below hb)
        replace FV := Lib.hid (FV.out.below hb)
        clear hb K5 SP2
        have ln := MN2.out.len
        rw [HFL.out] at ln
        have hff : ((f : Int) != f) = false := by simp
        go_wp2_with (first
          | ((with_reducible refine wpList_loadBagG q c 29 ?_ ?_ ?_ ?_ ?_); rfl; rfl; exact B3.out; exact CS.out)
          | fail)
        clear ln hff
        refine (is_any c L _ L w5 V1.out R4.out (by rw [HM.out]; omega)).mono ?_
        rintro e w6 ⟨rfl, hb⟩
        rw [decide_eq_true (Eq.refl L)]
        replace BZ2 := Lib.hid (BZ2.out.trans (hb.mono BZ2.out.size))
        replace MN2 := Lib.hid (MN2.out.below hb)
        replace FV := Lib.hid (FV.out.below hb)
        clear hb B3 R4
        go_wp2_with fail
        obtain ⟨wo, rfl⟩ : ∃ wo, wo = w6 := ⟨_, rfl⟩
        go_loopw [75] (fun iv wr => ∃ j : Nat, j ≤ f ∧ iv = .int .i64 j ∧ Below wo.heap.size wo wr) (fun iv _ => f - (intOf iv).toNat)
        case atStart => exact ⟨0, by omega, rfl, Below.refl _ _⟩
        case round =>
          obtain ⟨j, hj, rfl, hb⟩ := hrel
          have BB := Lib.hid hb
          clear hb
          by_cases hjf : j < f
          · obtain ⟨fb, foff, rfl, hbl, hc⟩ := FV.out.addr hjf
            have c0 := hc j hjf
            rw [← BB.out.cell (p := ⟨fb, _, none⟩) hbl] at c0
            have hmem := getD_memI (L := F) (k := j) (by rw [FL.out]; exact hjf)
            have hx6 := F6.out _ hmem
            have hin := FM.out _ hmem
            have lk := (MN2.out.below BB.out).look _ hx6
            rw [hin] at lk
            clear hmem hin hx6
            cases j with
            | zero =>
              clear hc
              obtain ⟨x, hx⟩ : ∃ x, F.getD 0 0 = x := ⟨_, rfl⟩
              rw [hx] at c0 lk
              clear hx
              rw [Nat.add_zero] at c0
              go_wp2_with fail
              go_roundw
              case rel => exact ⟨1, by omega, by go_num, BB.out⟩
              case measure => simp [intOf]; omega
            | succ i =>
              have d0 := hc i (by omega)
              rw [← BB.out.cell (p := ⟨fb, _, none⟩) hbl] at d0
              have hlt2 := FI.out.step (j := i) (by rw [FL.out]; exact hjf)
              clear hc
              obtain ⟨x, hx⟩ : ∃ x, F.getD (i + 1) 0 = x := ⟨_, rfl⟩
              obtain ⟨y, hy⟩ : ∃ x, F.getD i 0 = x := ⟨_, rfl⟩
              rw [hx] at c0 lk hlt2
              rw [hy] at d0 hlt2
              clear hx hy
              have hnle : ¬ x ≤ y := by omega
              have e1 : (((i + 1 : Nat) : Int)) = (i : Int) + 1 := by omega
              rw [e1]
              go_wp2_with fail
              go_roundw
              case rel => exact ⟨i + 1 + 1, by omega, by go_num, BB.out⟩
              case measure => simp [intOf]; omega
          · obtain rfl : j = f := by omega
            go_wp2_with fail
            refine (awake_any wr).mono ?_
            rintro e w7 ⟨rfl, hb⟩
            have BE := Lib.hid (BZ2.out.trans ((BB.out.trans (hb.mono BB.out.size)).mono BZ2.out.size))
            clear hb
            go_wp2_with fail
            go_ret
            exact ⟨rfl, BE.out⟩
end Go.Proofs.Ytknnnjnnphdipaa
