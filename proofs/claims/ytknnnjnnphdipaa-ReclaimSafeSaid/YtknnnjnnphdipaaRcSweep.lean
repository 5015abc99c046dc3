/- Sweep of a bag. -/
import Derived.Test.YtknnnjnnphdipaaRcBound
import Derived.Test.YtknnnjnnphdipaaRcRet
namespace Go.Proofs.Ytknnnjnnphdipaa
open Go.ChangeShapes Go.WideShapes Go.ChangeAt Go.RowKit Go.Maps
theorem own_row {w : World} {B : Nat} {e : TypeId} {size n : Nat} {v : Value} {xs : List Value} (h : w.ownsRow B e size v n xs) {b : Nat} {cs ds : Array Value} {t : TypeId} (hx : Box w b cs t) (ht : t ≠ e) : (w.setRow b ds).ownsRow B e size v n xs := by
  obtain ⟨h1, h2 | ⟨g, cap, cur, hv, hB, hh, r⟩⟩ := h
  · exact ⟨h1, .inl h2⟩
  · exact ⟨h1, .inr ⟨g, cap, cur, hv, hB, Box.row (t := e) hh (fun q => by subst q; exact Box.ne hx hh ht rfl), r⟩⟩
theorem own_grown {w w1 : World} {B B' : Nat} {e e' : TypeId} {size size' n n' : Nat} {v v' : Value} {xs xs' : List Value} (h : w.ownsRow B e size v n xs) (h' : w.ownsRow B' e' size' v' n' xs') (hne : e ≠ e') (hg : w.grownBy w1 v'.ownBlock) : w1.ownsRow B e size v n xs := by
  obtain ⟨h1, h2 | ⟨g, cap, cur, hv, hB, hh, r⟩⟩ := h
  · exact ⟨h1, .inl h2⟩
  · refine ⟨h1, .inr ⟨g, cap, cur, hv, hB, (hg.block g (lt_block hh) ?_).trans hh, r⟩⟩
    intro q
    obtain ⟨_, ⟨h2, _⟩ | ⟨g', cap', cur', hv', _, hh', _⟩⟩ := h'
    · rw [h2] at q; cases q
    · rw [hv'] at q
      have q' : g = g' := by simpa [Value.ownBlock] using q
      subst q'
      rw [hh] at hh'
      injection hh' with hh'
      injection hh' with _ q
      exact hne q
theorem box_grown' {w w1 : World} {b : Nat} {cs : Array Value} {t : TypeId} {B : Nat} {e : TypeId} {size n : Nat} {v : Value} {xs : List Value} (hx : Box w b cs t) (h : w.ownsRow B e size v n xs) (ht : t ≠ e) (hg : w.grownBy w1 v.ownBlock) : Box w1 b cs t := by
  refine hx.grown hg ?_
  intro q
  obtain ⟨_, ⟨h2, _⟩ | ⟨g', cap', cur', hv', _, hh', _⟩⟩ := h
  · rw [h2] at q; cases q
  · rw [hv'] at q
    have q' : b = g' := by simpa [Value.ownBlock] using q
    subst q'
    exact Box.ne hx hh' ht rfl
/-- The loop of Sweep: the kept items (box b), the freed blocks, the bag's items, the box of the answer (g). -/
structure SW (w wr : World) (b g : Nat) (iv : Value) (L K : List It) (fv : Value) (F : List Int) (c : Array Value) : Prop where
  it : Row3 26 w.heap.size wr iv L
  kb : Box wr b c 29
  kv : BV c K
  gb : Box wr g zBag 29
  fr : Row 3 w.heap.size wr fv F
  bel : Below w.heap.size w wr
  lb : w.heap.size ≤ b
  lg : w.heap.size ≤ g
  ne : g ≠ b
theorem SW.below {w wr w1 : World} {b g : Nat} {iv : Value} {L K : List It} {fv : Value} {F : List Int} {c : Array Value} (h : SW w wr b g iv L K fv F c) (hb : Below wr.heap.size wr w1) : SW w w1 b g iv L K fv F c :=
  ⟨h.it.below hb, h.kb.below hb, h.kv, h.gb.below hb, h.fr.below hb, h.bel.trans (hb.mono h.bel.size), h.lb, h.lg, h.ne⟩
theorem SW.keep {w wr : World} {b g : Nat} {iv : Value} {L K K' : List It} {fv : Value} {F : List Int} {c c' : Array Value} (h : SW w wr b g iv L K fv F c) (hv : BV c' K') : SW w (wr.setRow b c') b g iv L K' fv F c' :=
  ⟨own_row h.it h.kb (by decide), h.kb.rowSame, hv, h.gb.row h.ne, own_row h.fr h.kb (by decide), below_row h.bel h.lb _, h.lb, h.lg, h.ne⟩
theorem SW.free {w wr w1 : World} {b g : Nat} {iv : Value} {L K : List It} {fv fv' : Value} {F F' : List Int} {c : Array Value} (h : SW w wr b g iv L K fv F c) (hg : wr.grownBy w1 fv.ownBlock) (hr : Row 3 w.heap.size w1 fv' F') (hb : Below w.heap.size w w1) : SW w w1 b g iv L K fv' F' c :=
  ⟨own_grown h.it h.fr (by decide) hg, box_grown' h.kb h.fr (by decide) hg, h.kv, box_grown' h.gb h.fr (by decide) hg, hr, hb, h.lb, h.lg, h.ne⟩
/-- What Sweep answers. -/
def Swp (L : List It) (A P : List Int) (w : World) (e : Ending) (w' : World) : Prop :=
  ∃ c fv F, e = .returned (.tuple #[.agg c, fv]) ∧ BV c (L.filter (protB A P)) ∧ Row 3 w.heap.size w' fv F ∧ Inc F ∧ (∀ k, k ∈ F ↔ ∃ x ∈ L, protB A P x = false ∧ x.1 = k) ∧ Below w.heap.size w w'
def freeL (A P : List Int) (L : List It) : List Int := (L.filter (fun x => !protB A P x)).map (·.1)
theorem filter_succ (p : It → Bool) (L : List It) {k : Nat} (h : k < L.length) : (L.take (k + 1)).filter p = (L.take k).filter p ++ if p (L.getD k zIt) = true then [L.getD k zIt] else [] := by
  rw [take_succ_getD3 L h, List.filter_append]
  simp [List.filter_cons]
theorem freeL_succ (A P : List Int) (L : List It) {k : Nat} (h : k < L.length) : freeL A P (L.take (k + 1)) = freeL A P (L.take k) ++ if protB A P (L.getD k zIt) = false then [(L.getD k zIt).1] else [] := by
  unfold freeL
  rw [filter_succ _ L h, List.map_append]
  cases protB A P (L.getD k zIt) <;> simp
theorem freeL_nd {L : List It} (h : Good6 L) (A P : List Int) : (freeL A P L).Nodup := by
  unfold freeL
  exact List.Nodup.sublist (List.Sublist.map _ List.filter_sublist) h.1
theorem mem_freeL {A P : List Int} {L : List It} (k : Int) : k ∈ freeL A P L ↔ ∃ x ∈ L, protB A P x = false ∧ x.1 = k := by
  unfold freeL
  simp only [List.mem_map, List.mem_filter]
  constructor
  · rintro ⟨x, ⟨h1, h2⟩, h3⟩; exact ⟨x, h1, by simpa using h2, h3⟩
  · rintro ⟨x, h1, h2, h3⟩; exact ⟨x, ⟨h1, by simpa using h2⟩, h3⟩
theorem swp_end {L : List It} {A P : List Int} {w W : World} {a : Act} {c : Array Value} {g : Nat} {fv : Value} {F : List Int} (hp : a.tmps.getD 6 undef = .pointer (some ⟨g, 0, none⟩)) (hc : a.tmps.getD 7 undef = fv) (hd : a.defers = [])
    (hB : Box W g c 29) (hV : BV c (L.filter (protB A P))) (hr : Row 3 w.heap.size W fv F) (hi : Inc F) (hm : ∀ k, k ∈ F ↔ ∃ x ∈ L, protB A P x = false ∧ x.1 = k) (hb : Below w.heap.size w W) : bodyPost Try.prog Try.f15 (Swp L A P w) Exit.ret a W := by
  refine bodyPost_ret (v := .tuple #[.agg c, fv]) ?_ hd ⟨c, fv, F, rfl, hV, hr, hi, hm, hb⟩
  rw [results_cell_tmp (p := 6) (u := 7) (ty := 29) rfl a.tmps Try.prog W, hp, hc]
  simp only [asAddr, Sem.run_pure, Result.andThen_ok, run_loadVar_row W g 29 29 c (0, 0) _ hB Try.underlying29 rfl hV.info]
set_option maxRecDepth 100000 in
set_option maxHeartbeats 6400000 in
theorem sweep_any (cs : Array Value) (L : List It) (v u : Value) (A P : List Int) (w : World) (h : BV cs L) (hg : Good6 L) (hv : IS w v A) (hu : IS w u P) (la : A.length ≤ 1000) (lp : P.length ≤ 1000) (op : OkL P) : Calls Try.prog 15 #[.agg cs, v, u] w (Swp L A P w) := by
  have HV := Lib.hid hv
  have HU := Lib.hid hu
  have H := Lib.hid h
  have HG := Lib.hid hg
  have OP := Lib.hid op
  have hlen := h.len
  obtain ⟨a1, c1, rfl⟩ := hv.form
  obtain ⟨a2, c2, rfl⟩ := hu.form
  clear hv hu h hg op
  obtain ⟨n, hn⟩ : ∃ n, L.length = n := ⟨_, rfl⟩
  rw [hn] at hlen
  have HN := Lib.hid hn
  clear hn
  have ZS := Lib.hid zBag_size
  have zv := zero29
  go_enter Try.func15, Try.ntmps15
  go_upto_region 2 with fail
  clear zv
  obtain ⟨q, hq⟩ : ∃ q, w.heap.size = q := ⟨_, rfl⟩
  obtain ⟨W, hW⟩ : ∃ W, ((w.alloc (.cells cs 29)).alloc (.cells zBag 29)).alloc (.cells zBag 29) = W := ⟨_, rfl⟩
  have B0 : Hid (Box W q cs 29) := Lib.hid (by rw [← hW]; exact ((Box.new w cs 29 hq.symm).alloc _).alloc _)
  have B1 : Hid (Box W (q + 1) zBag 29) := Lib.hid (by rw [← hW]; exact (Box.new (w.alloc (.cells cs 29)) _ 29 (by simp; omega)).alloc _)
  have B2 : Hid (Box W (q + 1 + 1) zBag 29) := Lib.hid (by rw [← hW]; exact Box.new _ _ 29 (by simp; omega))
  have BW : Hid (Below w.heap.size w W) := Lib.hid (by rw [← hW]; exact (((below1 w _).alloc (by simp) _).alloc (by simp; omega) _))
  rw [hW, hq]
  have HQ := Lib.hid hq
  clear hW hq
  go_wp2_with (first
    | ((with_reducible refine wpList_loadBag q cs 29 ?_ ?_ ?_ ?_); rfl; exact B0.out; exact H.out.size)
    | fail)
  refine (items_any cs L W H.out).mono ?_
  rintro e w1 ⟨iv, rfl, hr, hb⟩
  obtain ⟨ia, ic, rfl⟩ := hr.form
  have S0 : Hid (SW w w1 (q + 1 + 1) (q + 1) (.slice ia L.length ic) L [] (.slice none 0 0) [] zBag) := Lib.hid ⟨hr.mono BW.out.size, B2.out.below hb, BV.zero, B1.out.below hb, Row.nil _ _ _, BW.out.trans (hb.mono BW.out.size), by have := HQ.out; omega, by have := HQ.out; omega, by omega⟩
  clear hr hb B0 B1 B2 BW
  rw [HN.out] at S0 ⊢
  go_wp2_with fail
  go_loopw [9, 15] (fun fv iv wr => ∃ k : Nat, ∃ c, k ≤ n ∧ iv = .int .i64 k ∧ SW w wr (q + 1 + 1) (q + 1) (.slice ia n ic) L ((L.take k).filter (protB A P)) fv (freeL A P (L.take k)) c) (fun _ iv _ => n - (intOf iv).toNat)
  case atStart => exact ⟨0, zBag, by omega, rfl, S0.out⟩
  case round =>
    obtain ⟨k, c, hk, rfl, hs⟩ := hrel
    have S := Lib.hid hs
    have hsz := hs.bel.size
    clear hs S0
    by_cases hlt : k < n
    · have hkl : ((L.take k).filter (protB A P)).length < 64 := by
        have := List.length_filter_le (protB A P) (L.take k)
        rw [List.length_take] at this
        omega
      have hfl : (freeL A P (L.take k)).length ≤ 64 := by
        unfold freeL
        rw [List.length_map]
        have := List.length_filter_le (fun x => !protB A P x) (L.take k)
        rw [List.length_take] at this
        omega
      obtain ⟨b, off, rfl, hbl, hc⟩ := S.out.it.ps.addr hlt
      obtain ⟨c0, c1', c2'⟩ := hc k hlt
      have HK := Lib.hid (filter_succ (protB A P) L (k := k) (by rw [HN.out]; exact hlt))
      have HF := Lib.hid (freeL_succ A P L (k := k) (by rw [HN.out]; exact hlt))
      have hyr := HG.out.2 _ (getD_mem3 (L := L) (k := k) (by rw [HN.out]; exact hlt))
      clear hc
      obtain ⟨y, hy⟩ : ∃ y, L.getD k zIt = y := ⟨_, rfl⟩
      rw [hy] at c0 c1' c2' HK HF hyr
      clear hy
      have HI : Hid (I64 y.1) := Lib.hid (by unfold I64; omega)
      have PC := Lib.hid (fun (W : World) (hv : IS W (.slice a1 A.length c1) A) (hu : IS W (.slice a2 P.length c2) P) => prot_any y _ _ A P W hv hu la lp HI.out OP.out)
      obtain ⟨s, hs⟩ : ∃ s, protB A P y = s := ⟨_, rfl⟩
      rw [hs] at HK HF PC
      clear hs hyr
      obtain ⟨y0, y1, y2⟩ := y
      unfold itV at PC
      simp only at c0 c1' c2' PC HI
      obtain ⟨wo, rfl⟩ : ∃ wo, wo = wr := ⟨_, rfl⟩
      go_upto_region 6 with fail
      obtain ⟨W2, hW2⟩ : ∃ W2, wo.alloc (.cells #[.int .i64 y0, .int .i64 y1, .int .i64 y2] 26) = W2 := ⟨_, rfl⟩
      obtain ⟨g, hgq⟩ : ∃ g, wo.heap.size = g := ⟨_, rfl⟩
      have X0 : Hid (Box W2 g #[.int .i64 y0, .int .i64 y1, .int .i64 y2] 26) := Lib.hid (by rw [← hW2]; exact Box.new wo _ 26 hgq.symm)
      have S2 : Hid (SW w W2 (q + 1 + 1) (q + 1) (.slice (some ⟨b, off, none⟩) n ic) L ((L.take k).filter (protB A P)) _ (freeL A P (L.take k)) c) := Lib.hid (by rw [← hW2]; exact S.out.below (below1 wo _))
      rw [hW2, hgq]
      clear hW2 hgq c0 c1' c2'
      have z0 := X0.out.cell 0
      have z1 := X0.out.cell 1
      have z2 := X0.out.cell 2
      simp at z0 z1 z2
      go_wp2_with fail
      refine (PC.out W2 (HV.out.below S2.out.bel) (HU.out.below S2.out.bel)).mono ?_
      rintro e w3 ⟨rfl, hb⟩
      have X1 := Lib.hid (X0.out.below hb)
      have S3 := Lib.hid (S2.out.below hb)
      clear hb z0 z1 z2 PC S2 X0
      have z0 := X1.out.cell 0
      have z1 := X1.out.cell 1
      have z2 := X1.out.cell 2
      simp at z0 z1 z2
      cases s with
      | true =>
        have CS := Lib.hid S3.out.kv.size
        go_wp2_with (first
          | ((with_reducible refine wpList_loadBag (q + 1 + 1) c 29 ?_ ?_ ?_ ?_); rfl; exact S3.out.kb; exact CS.out)
          | fail)
        refine (with_any c _ (y0, y1, y2) w3 S3.out.kv hkl).mono ?_
        rintro e w4 ⟨c4, rfl, hv4, hb⟩
        have S4 := Lib.hid (S3.out.below hb)
        have V4 := Lib.hid hv4
        clear hb hv4 z0 z1 z2
        go_wp2_with (first
          | ((with_reducible refine wpList_storeBag (q + 1 + 1) c4 c 29 ?_ ?_ ?_ ?_ ?_ ?_ ?_); rfl; rfl; exact S4.out.kb; exact CS.out; exact V4.out.size; exact V4.out.one)
          | fail)
        go_roundw
        case rel => exact ⟨k + 1, c4, by omega, by go_num, by rw [HK.out, HF.out]; simpa using S4.out.keep V4.out⟩
        case measure => simp [intOf]; omega
      | false =>
        have C2 := Lib.hid (IS.ofBox (Box.new w3 #[.int .i64 y0] 3 rfl) (L := [y0]) (n := 1) (cap := 1) rfl rfl (Nat.le_refl _))
        have S4 := Lib.hid (S3.out.below (below1 w3 (.cells #[.int .i64 y0] 3)))
        go_wp2_with (first
          | (at_builtin; refine wpList_app' Try.underlying44 infoI _ rfl (.tmp 26) (.tmp 29) rfl rfl S4.out.bel S4.out.fr rfl C2.out (by simp; omega) ?_; intro v5 w5 r5 b5 g5; have S5 := Lib.hid (S4.out.free g5 r5 b5); clear r5 b5 g5)
          | fail)
        go_roundw
        case rel => exact ⟨k + 1, c, by omega, by go_num, by rw [HK.out, HF.out]; simpa using S5.out⟩
        case measure => simp [intOf]; omega
    · obtain rfl : k = n := by omega
      have HT : Hid (L.take k = L) := Lib.hid (List.take_of_length_le (by rw [HN.out]; exact Nat.le_refl _))
      rw [HT.out] at S
      have ND := Lib.hid (freeL_nd HG.out A P)
      have hfl : (freeL A P L).length ≤ 64 := by
        unfold freeL
        rw [List.length_map]
        have := List.length_filter_le (fun x => !protB A P x) L
        rw [HN.out] at this
        omega
      have HMF := Lib.hid (fun x => (sort_mem (L := freeL A P L) x).trans (mem_freeL x))
      generalize freeL A P L = F at *
      obtain ⟨fa, fc, rfl, -⟩ := S.out.fr.form
      have SR := Lib.hid (sort_row S.out.fr (by omega))
      have HI := Lib.hid (sort_inc ND.out)
      go_wp2_with fail
      refine SR.out.mono ?_
      rintro e w4 ⟨rfl, hr, hg⟩
      have S5 := Lib.hid (S.out.free hg hr (below_app S.out.bel hsz S.out.fr hg))
      clear hr hg SR
      have CS := Lib.hid S5.out.kv.size
      go_wp2_with (first
        | ((with_reducible refine wpList_loadBag (q + 1 + 1) c 29 ?_ ?_ ?_ ?_); rfl; exact S5.out.kb; exact CS.out)
        | ((with_reducible refine wpList_storeBag (q + 1) c zBag 29 ?_ ?_ ?_ ?_ ?_ ?_ ?_); rfl; rfl; exact S5.out.gb; exact ZS.out; exact CS.out; exact S5.out.kv.one)
        | fail)
      exact swp_end rfl rfl rfl S5.out.gb.rowSame S5.out.kv (own_row S5.out.fr S5.out.gb (by decide)) HI.out HMF.out (below_row S5.out.bel S5.out.lg _)
end Go.Proofs.Ytknnnjnnphdipaa
