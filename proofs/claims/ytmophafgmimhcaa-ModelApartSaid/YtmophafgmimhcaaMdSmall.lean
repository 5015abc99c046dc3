/- slices.Clone of words, New, At, Len, Words. -/
import Derived.Test.YtmophafgmimhcaaMdFind
namespace Go.Proofs.Ytmophafgmimhcaa
open Go.ChangeShapes Go.WideShapes Go.ChangeAt Go.RowKit Go.Maps
set_option maxRecDepth 100000 in
set_option maxHeartbeats 1600000 in
theorem clone_any (v : Value) (L : List Wd) (w : World) (h : WS w v L) (hl : L.length ≤ 1000) : Calls Try.prog 22 #[v] w fun e w' => ∃ u, e = .returned u ∧ RowK wdE 43 w.heap.size w' u L ∧ Below w.heap.size w w' := by
  have HV := Lib.hid h
  obtain ⟨a1, c1, rfl, hcap⟩ := h.form
  clear h
  obtain ⟨n, hn⟩ : ∃ n, L.length = n := ⟨_, rfl⟩
  rw [hn] at HV hl hcap ⊢
  have HN := Lib.hid hn
  clear hn
  cases a1 with
  | none =>
    have hnil := Lib.run_eql_slice_nil (P := Try.prog) w 22 _ none n c1 0 0 Try.underlying22
    have hL : L = [] := by
      obtain ⟨a', c', e, _, h | ⟨b, off, h, _⟩⟩ := HV.out
      · exact h
      · injection e with e1; rw [← e1] at h; cases h
    subst hL
    go_enter Try.func22, Try.ntmps22
    go_wp2_with fail
    go_ret
    exact ⟨_, rfl, RowK.nil _ _ _, Below.refl _ _⟩
  | some a =>
    have A1 := Lib.hid (below1 w (.cells #[] 43))
    have E1 := Lib.hid (RowK.ofBox (E := wdE) (B := w.heap.size) (Box.new w #[] 43 rfl) (Nat.le_refl _) (L := []) rfl rfl (by simp))
    have S1 := Lib.hid (HV.out.below A1.out)
    have hnil := Lib.run_eql_slice_nil (P := Try.prog) w 22 _ (some a) n c1 0 0 Try.underlying22
    go_enter Try.func22, Try.ntmps22
    go_wp2_with (first
      | (at_builtin; refine wpList_appK Try.underlying22 infoW rfl (by decide) _ rfl (.tmp 5) (.tmp 6) rfl rfl A1.out E1.out rfl S1.out (by simp; rw [HN.out]; omega) ?_; intro v3 w3 r3 b3 g3; obtain ⟨a6, c6, e6⟩ : ∃ a c, v3 = .slice a n c := (by obtain ⟨a, c, h, _⟩ := r3.form; exact ⟨a, c, by rw [h, List.nil_append, HN.out]⟩); subst e6; have R3 := Lib.hid r3; have B3 := Lib.hid b3; clear r3 b3 g3)
      | fail)
    go_ret
    exact ⟨_, rfl, by simpa using R3.out, B3.out⟩
def bare1 (x : Wd) : Wd := (x.1, x.2.1, 0)
def mid (M : List Wd) (k : Nat) : List Wd := bare (M.take k) ++ M.drop k
theorem mid_len (M : List Wd) {k : Nat} (h : k ≤ M.length) : (mid M k).length = M.length := by unfold mid bare; simp; omega
theorem mid_zero (M : List Wd) : mid M 0 = M := by simp [mid, bare]
theorem mid_all (M : List Wd) : mid M M.length = bare M := by simp [mid]
theorem mid_get (M : List Wd) {k : Nat} (h : k < M.length) : (mid M k)[k]! = M[k]! := by
  rw [getElem!_pos (mid M k) k (by rw [mid_len M (by omega)]; exact h), getElem!_pos M k h]
  unfold mid bare
  rw [List.getElem_append_right (by simp; omega)]
  simp [List.getElem_drop, Nat.min_eq_left (Nat.le_of_lt h)]
theorem mid_set (M : List Wd) {k : Nat} (h : k < M.length) : (mid M k).set k (bare1 M[k]!) = mid M (k + 1) := by
  unfold mid bare
  have e : ((M.take k).map fun x : Wd => (x.1, x.2.1, (0 : Int))).length = k := by simp; omega
  rw [List.set_append_right _ _ (by rw [e]; exact Nat.le_refl _), e, Nat.sub_self, drop_cons M h, List.set_cons_zero, take_snoc M h, List.map_append, List.append_assoc]
  rfl
set_option maxRecDepth 100000 in
set_option maxHeartbeats 1600000 in
theorem new_any (v : Value) (L : List Wd) (w : World) (h : WS w v L) (hl : L.length ≤ 1000) : Calls Try.prog 10 #[v] w fun e w' => ∃ u, e = .returned (.agg #[u]) ∧ WS w' u (bare L) ∧ Below w.heap.size w w' := by
  have HV := Lib.hid h
  obtain ⟨a1, c1, rfl, hcap⟩ := h.form
  clear h
  obtain ⟨n, hn⟩ : ∃ n, L.length = n := ⟨_, rfl⟩
  rw [hn] at HV hl hcap ⊢
  have HN := Lib.hid hn
  clear hn
  go_enter Try.func10, Try.ntmps10
  go_upto_region 1 with fail
  obtain ⟨W, hW⟩ : ∃ W, w.alloc (.cells #[.slice none 0 0] 27) = W := ⟨_, rfl⟩
  obtain ⟨q, hq⟩ : ∃ q, w.heap.size = q := ⟨_, rfl⟩
  have B : Hid (Box W q #[.slice none 0 0] 27) := Lib.hid (by rw [← hW]; exact Box.new w _ 27 hq.symm)
  have BB : Hid (Below w.heap.size w W) := Lib.hid (by rw [← hW]; exact below1 w _)
  have hqW : Hid (w.heap.size ≤ q) := Lib.hid (by omega)
  rw [hW, hq]
  clear hW hq
  go_wp2_with fail
  refine (clone_any _ L W (HV.out.below BB.out) (by rw [HN.out]; exact hl)).mono ?_
  rintro e w1 ⟨u, rfl, hr, hb⟩
  replace B := Lib.hid (B.out.below hb)
  have BW := Lib.hid (BB.out.trans (hb.mono BB.out.size))
  obtain ⟨ua, uc, rfl, _⟩ := hr.form
  rw [HN.out] at hr ⊢
  have RR := Lib.hid hr
  have hqu : Hid (∀ g, ua = some ⟨g, 0, none⟩ → g ≠ q) := Lib.hid (by
    rintro g rfl e
    subst e
    have := box_not_rowK hr B.out (by decide)
    exact this rfl)
  have hWs : Hid (w.heap.size ≤ W.heap.size) := Lib.hid BB.out.size
  clear hr hb
  go_wp2_with fail
  go_loopw [9] (fun iv wr => ∃ k : Nat, k ≤ n ∧ iv = .int .i64 k ∧ RowK wdE 43 w.heap.size wr (.slice ua n uc) (mid L k) ∧ Box wr q #[.slice none 0 0] 27 ∧ Below w.heap.size w wr) (fun iv _ => n - (intOf iv).toNat)
  case atStart => exact ⟨0, by omega, rfl, by rw [mid_zero]; exact RR.out.mono hWs.out, B.out, BW.out⟩
  case round =>
    obtain ⟨k, hk, rfl, hr, hB, hb⟩ := hrel
    have BB := Lib.hid hb
    have R := Lib.hid hr
    replace B := Lib.hid hB
    clear hb hr hB
    by_cases hlt : k < n
    · obtain ⟨g, rfl, hg, hgl, _⟩ := R.out.block (by omega : 0 < n)
      have hkm : k < (mid L k).length := by rw [mid_len L (by rw [HN.out]; omega), HN.out]; exact hlt
      have hc : wr.cell? ⟨g, k * 3 + 2, none⟩ = some (.int .u32 ((mid L k)[k]!).2.2) := by
        obtain ⟨b', o', e1, _, _, hrd⟩ := R.out.sk.addr (k := k) hlt
        injection e1 with e1
        injection e1 with e1 e2
        subst e1 e2
        have := (wd_cells hrd hkm).2.2
        rw [Nat.zero_add] at this
        exact this
      have hf := R.out.free (k * 3 + 2)
      have hS : Hid (RowK wdE 43 w.heap.size (wr.setCell ⟨g, k * 3 + 2, none⟩ (.int .u32 0)) (.slice (some ⟨g, 0, none⟩) n uc) (mid L (k + 1))) := Lib.hid (by
        rw [← mid_set L (by rw [HN.out]; exact hlt)]
        refine R.out.set (i := k) (j := 2) hkm (by decide) ?_
        rw [mid_get L (by rw [HN.out]; exact hlt)]
        rfl)
      have hSB := Lib.hid (R.out.setBelow BB.out (k * 3 + 2) (.int .u32 0))
      have hSX := Lib.hid (B.out.other (b' := g) (fun e => hqu.out g rfl e.symm) (k * 3 + 2) (.int .u32 0))
      clear hkm
      go_wp2_with fail
      go_roundw
      case rel => exact ⟨k + 1, by omega, by go_num, hS.out, hSX.out, hSB.out⟩
      case measure => simp [intOf]; omega
    · obtain rfl : k = n := by omega
      have z0 := B.out.cell 0
      have z1 := B.out.free 0
      simp at z0
      go_wp2_with fail
      have D := Lib.hid (B.out.set 0 (.slice ua k uc))
      have d0 := D.out.cell 0
      simp at d0
      refine bodyPost_ret (v := .agg #[.slice ua k uc]) (by simp [results, Try.results10, go_sem, d0]) rfl ⟨_, rfl, ?_, ?_⟩
      · have : RowK wdE 43 w.heap.size (wr.setCell ⟨q, 0, none⟩ (.slice ua k uc)) (.slice ua k uc) (mid L k) := by
          obtain ⟨h1, h2 | ⟨g, cap, cur, hv, hB, hh, r⟩⟩ := R.out
          · exact ⟨h1, .inl h2⟩
          · refine ⟨h1, .inr ⟨g, cap, cur, hv, hB, ?_, r⟩⟩
            injection hv with e1
            exact Box.other (t := 43) hh (hqu.out g e1) 0 _
        rw [← HN.out, mid_all L] at this
        rw [← HN.out]
        exact this.sk
      · exact BB.out.setCell hqW.out _
set_option maxRecDepth 100000 in
theorem words_any (v : Value) (L : List Wd) (w : World) (h : WS w v L) (hl : L.length ≤ 1000) : Calls Try.prog 21 #[.agg #[v]] w fun e w' => ∃ u, e = .returned u ∧ RowK wdE 43 w.heap.size w' u L ∧ Below w.heap.size w w' := by
  have HV := Lib.hid h
  obtain ⟨a1, c1, rfl, hcap⟩ := h.form
  clear h
  have BW := Lib.hid (below1 w (.cells #[.slice a1 L.length c1] 27))
  have hs := BW.out.size
  go_enter Try.func21, Try.ntmps21
  go_wp2_with fail
  refine (clone_any _ L _ (HV.out.below BW.out) hl).mono ?_
  rintro e w1 ⟨u, rfl, hr, hb⟩
  obtain ⟨ua, uc, rfl, _⟩ := hr.form
  have RR := Lib.hid (hr.mono hs)
  replace BW := Lib.hid (BW.out.trans (hb.mono BW.out.size))
  clear hr hb
  go_wp2_with fail
  go_ret
  exact ⟨_, rfl, RR.out, BW.out⟩
set_option maxRecDepth 100000 in
theorem len_any (v : Value) (L : List Wd) (w : World) (h : WS w v L) : Calls Try.prog 20 #[.agg #[v]] w fun e w' => e = .returned (.int .i64 L.length) ∧ Below w.heap.size w w' := by
  obtain ⟨a1, c1, rfl, hcap⟩ := h.form
  clear h
  go_enter Try.func20, Try.ntmps20
  go_wp2_with fail
  go_ret
  exact ⟨rfl, below1 _ _⟩
set_option maxRecDepth 100000 in
set_option maxHeartbeats 1600000 in
theorem at_any (v : Value) (L : List Wd) (a : Int) (w : World) (h : WS w v L) : Calls Try.prog 19 #[.agg #[v], .int .i64 a] w fun e w' => e = .returned (.tuple #[wdV (atM L a), .bool (hasM L a)]) ∧ Below w.heap.size w w' := by
  have HV := Lib.hid h
  obtain ⟨a1, c1, rfl, hcap⟩ := h.form
  clear h
  obtain ⟨n, hn⟩ : ∃ n, L.length = n := ⟨_, rfl⟩
  have HA : Hid (0 ≤ a ∧ a < n → atM L a = L[a.toNat]!) := Lib.hid (fun h => by unfold atM; rw [if_pos (by rw [hn]; exact h)])
  have HB : Hid (¬ (0 ≤ a ∧ a < n) → atM L a = (0, 0, 0)) := Lib.hid (fun h => by unfold atM; rw [if_neg (by rw [hn]; exact h)])
  have HC : Hid (hasM L a = decide (0 ≤ a ∧ a < n)) := Lib.hid (by unfold hasM; rw [hn])
  rw [hn] at HV hcap ⊢
  have HN := Lib.hid hn
  clear hn
  have BW := Lib.hid ((below1 w (.cells #[.slice a1 n c1] 27)).alloc (by simp) (.cells #[.int .i64 0, .int .u32 0, .int .u32 0] 43))
  by_cases h0 : a < 0
  · have hc := Lib.hid (show ¬ (0 ≤ a ∧ a < n) by omega)
    rw [HB.out hc.out, HC.out, decide_eq_false hc.out]
    go_enter Try.func19, Try.ntmps19
    go_wp2_with fail
    exact bodyPost_ret (v := .tuple #[.agg #[.int .i64 0, .int .u32 0, .int .u32 0], .bool false]) (by simp [results, Try.f19, go_sem]) rfl ⟨rfl, (below1 w _).alloc (by simp) _⟩
  by_cases h1 : (n : Int) ≤ a
  · have hc := Lib.hid (show ¬ (0 ≤ a ∧ a < n) by omega)
    rw [HB.out hc.out, HC.out, decide_eq_false hc.out]
    go_enter Try.func19, Try.ntmps19
    go_wp2_with fail
    exact bodyPost_ret (v := .tuple #[.agg #[.int .i64 0, .int .u32 0, .int .u32 0], .bool false]) (by simp [results, Try.f19, go_sem]) rfl ⟨rfl, (below1 w _).alloc (by simp) _⟩
  · obtain ⟨k, rfl⟩ : ∃ k : Nat, a = k := ⟨a.toNat, by omega⟩
    have hlt : k < n := by omega
    have hc := Lib.hid (show 0 ≤ (k : Int) ∧ (k : Int) < n by omega)
    rw [HA.out hc.out, HC.out, decide_eq_true hc.out, Int.toNat_natCast]
    obtain ⟨b, off, rfl, hbl, hln, hcs⟩ := HV.out.addr hlt
    obtain ⟨c0, c1, c2⟩ := wd_cells hcs (by rw [hln]; exact hlt)
    rw [← BW.out.cell (p := ⟨b, _, none⟩) hbl] at c0 c1 c2
    clear hcs hln
    obtain ⟨y, hy⟩ : ∃ y, L[k]! = y := ⟨_, rfl⟩
    rw [hy] at c0 c1 c2 ⊢
    obtain ⟨y0, y1, y2⟩ := y
    simp only at c0 c1 c2
    unfold wdV
    go_enter Try.func19, Try.ntmps19
    go_wp2_with fail
    exact bodyPost_ret (v := .tuple #[.agg #[.int .i64 y0, .int .u32 y1, .int .u32 y2], .bool true]) (by simp [results, Try.f19, go_sem]) rfl ⟨rfl, (below1 w _).alloc (by simp) _⟩
end Go.Proofs.Ytmophafgmimhcaa
