/- Writes, Kind, checkPart, result, compose, slices.Clone of entries; the reference's Writes and Kind. -/
import Derived.Test.YtjphhfgomlchoaaDoorMdFind
namespace Go.Proofs.YtjphhfgomlchoaaDoor
open Go.ChangeShapes Go.WideShapes Go.ChangeAt Go.RowKit Go.Maps
def wrN (L : List En) : Nat := (L.filter fun e => e.2.2.2).length
theorem wrN_take (L : List En) {k : Nat} (h : k < L.length) : wrN (L.take (k + 1)) = wrN (L.take k) + if (L[k]!).2.2.2 then 1 else 0 := by
  unfold wrN
  rw [take_snoc L h, List.filter_append, List.length_append]
  obtain ⟨x, hx⟩ : ∃ x, L[k]! = x := ⟨_, rfl⟩
  rw [hx]
  cases hb : x.2.2.2 <;> simp [hb]
theorem wrN_le (L : List En) : wrN L ≤ L.length := List.length_filter_le _ _
def kindL (L : List En) : Int := if L.length = 0 then 0 else if wrN L = 0 then 1 else if L.length = 1 then 2 else 3
set_option maxRecDepth 100000 in
set_option maxHeartbeats 1600000 in
theorem writes_any (v : Value) (L : List En) (w : World) (hv : ES w v L) (hl : L.length ≤ 1000) : Calls Tryd.prog 22 #[v] w fun e w' => e = .returned (.int .i64 (wrN L)) ∧ Below w.heap.size w w' := by
  have HV := Lib.hid hv
  obtain ⟨a1, cp, rfl, hcap⟩ := hv.form
  clear hv
  obtain ⟨n, hn⟩ : ∃ n, L.length = n := ⟨_, rfl⟩
  rw [hn] at HV hl hcap ⊢
  have HN := Lib.hid hn
  clear hn
  go_enter Tryd.func22, Tryd.ntmps22
  go_wp2_with fail
  go_loopw [3, 8] (fun sv iv wr => ∃ k : Nat, k ≤ n ∧ iv = .int .i64 k ∧ sv = .int .i64 (wrN (L.take k) : Nat) ∧ Below w.heap.size w wr) (fun _ iv _ => n - (intOf iv).toNat)
  case atStart => exact ⟨0, by omega, rfl, rfl, Below.refl _ _⟩
  case round =>
    obtain ⟨k, hk, rfl, rfl, hb⟩ := hrel
    have BB := Lib.hid hb
    clear hb
    by_cases hlt : k < n
    · obtain ⟨b, off, rfl, hbl, hln, hc⟩ := HV.out.addr hlt
      obtain ⟨c0, c1, c2, c3, c4, c5⟩ := en_cells hc (by rw [hln]; exact hlt)
      rw [← BB.out.cell (p := ⟨b, _, none⟩) hbl] at c0 c1 c2 c3 c4 c5
      have WT := Lib.hid (wrN_take L (k := k) (by rw [HN.out]; exact hlt))
      have WL := wrN_le (L.take k)
      rw [List.length_take, HN.out] at WL
      clear hc hln
      obtain ⟨y, hy⟩ : ∃ y, L[k]! = y := ⟨_, rfl⟩
      rw [hy] at c0 c1 c2 c3 c4 c5 WT
      clear hy
      obtain ⟨y0, ⟨y1, y2, y3⟩, y4, y5⟩ := y
      simp only at c0 c1 c2 c3 c4 c5 WT
      obtain ⟨m, hm⟩ : ∃ m, wrN (L.take k) = m := ⟨_, rfl⟩
      rw [hm] at WT WL ⊢
      clear hm
      have hm1 : m ≤ 1000 := by omega
      clear WL
      replace BB := Lib.hid (BB.out.alloc BB.out.size (.cells #[.int .i64 y0, .int .i64 y1, .int .u32 y2, .int .u32 y3, .int .i64 y4, .bool y5] 48))
      have E5 : (wr.alloc (.cells #[.int .i64 y0, .int .i64 y1, .int .u32 y2, .int .u32 y3, .int .i64 y4, .bool y5] 48)).cell? ⟨wr.heap.size, 5, none⟩ = some (.bool y5) := (Box.new wr #[.int .i64 y0, .int .i64 y1, .int .u32 y2, .int .u32 y3, .int .i64 y4, .bool y5] 48 rfl).cell 5
      cases y5 with
      | true =>
        go_wp2_with fail
        go_roundw
        case rel => exact ⟨k + 1, by omega, by go_num, by rw [WT.out]; rfl, BB.out⟩
        case measure => simp [intOf]; omega
      | false =>
        go_wp2_with fail
        go_roundw
        case rel => exact ⟨k + 1, by omega, by go_num, by rw [WT.out]; rfl, BB.out⟩
        case measure => simp [intOf]; omega
    · obtain rfl : k = n := by omega
      have ET := Lib.hid (List.take_of_length_le (l := L) (i := k) (by rw [HN.out]; exact Nat.le_refl _))
      go_wp2_with fail
      go_ret
      exact ⟨by rw [ET.out]; rfl, BB.out⟩
set_option maxRecDepth 100000 in
set_option maxHeartbeats 1600000 in
theorem rwrites_any (v : Value) (L : List En) (w : World) (hv : ES w v L) (hl : L.length ≤ 1000) : Calls Tryd.prog 25 #[v] w fun e w' => e = .returned (.int .i64 (wrN L)) ∧ Below w.heap.size w w' := by
  have HV := Lib.hid hv
  obtain ⟨a1, cp, rfl, hcap⟩ := hv.form
  clear hv
  obtain ⟨n, hn⟩ : ∃ n, L.length = n := ⟨_, rfl⟩
  rw [hn] at HV hl hcap ⊢
  have HN := Lib.hid hn
  clear hn
  go_enter Tryd.func25, Tryd.ntmps25
  go_wp2_with fail
  go_loopw [3, 4] (fun sv iv wr => ∃ k : Nat, k ≤ n ∧ iv = .int .i64 k ∧ sv = .int .i64 (wrN (L.take k) : Nat) ∧ Below w.heap.size w wr) (fun _ iv _ => n - (intOf iv).toNat)
  case atStart => exact ⟨0, by omega, rfl, rfl, Below.refl _ _⟩
  case round =>
    obtain ⟨k, hk, rfl, rfl, hb⟩ := hrel
    have BB := Lib.hid hb
    clear hb
    by_cases hlt : k < n
    · obtain ⟨b, off, rfl, hbl, hln, hc⟩ := HV.out.addr hlt
      obtain ⟨c0, c1, c2, c3, c4, c5⟩ := en_cells hc (by rw [hln]; exact hlt)
      rw [← BB.out.cell (p := ⟨b, _, none⟩) hbl] at c5
      have WT := Lib.hid (wrN_take L (k := k) (by rw [HN.out]; exact hlt))
      have WL := wrN_le (L.take k)
      rw [List.length_take, HN.out] at WL
      clear hc hln c0 c1 c2 c3 c4
      obtain ⟨y5, hy⟩ : ∃ y, (L[k]!).2.2.2 = y := ⟨_, rfl⟩
      rw [hy] at c5 WT
      clear hy
      obtain ⟨m, hm⟩ : ∃ m, wrN (L.take k) = m := ⟨_, rfl⟩
      rw [hm] at WT WL ⊢
      clear hm
      have hm1 : m ≤ 1000 := by omega
      clear WL
      cases y5 with
      | true =>
        go_wp2_with fail
        go_roundw
        case rel => exact ⟨k + 1, by omega, by go_num, by rw [WT.out]; rfl, BB.out⟩
        case measure => simp [intOf]; omega
      | false =>
        go_wp2_with fail
        go_roundw
        case rel => exact ⟨k + 1, by omega, by go_num, by rw [WT.out]; rfl, BB.out⟩
        case measure => simp [intOf]; omega
    · obtain rfl : k = n := by omega
      have ET := Lib.hid (List.take_of_length_le (l := L) (i := k) (by rw [HN.out]; exact Nat.le_refl _))
      go_wp2_with fail
      go_ret
      exact ⟨by rw [ET.out]; rfl, BB.out⟩
set_option maxRecDepth 100000 in
theorem kindL_any (v : Value) (L : List En) (w : World) (hv : ES w v L) (hl : L.length ≤ 1000) : Calls Tryd.prog 23 #[v] w fun e w' => e = .returned (.int .i64 (kindL L)) ∧ Below w.heap.size w w' := by
  have WR := Lib.hid (writes_any v L w hv hl)
  obtain ⟨a1, cp, rfl, hcap⟩ := hv.form
  clear hv
  obtain ⟨n, hn⟩ : ∃ n, L.length = n := ⟨_, rfl⟩
  obtain ⟨r, hr⟩ : ∃ r, kindL L = r := ⟨_, rfl⟩
  rw [hr]
  have HR := Lib.hid hr
  unfold kindL at HR
  rw [hn] at HR WR hl ⊢
  clear hn hr
  obtain ⟨m, hm⟩ : ∃ m, wrN L = m := ⟨_, rfl⟩
  rw [hm] at HR WR
  clear hm
  by_cases h0 : n = 0
  · subst h0
    go_enter Tryd.func23, Tryd.ntmps23
    go_wp2_with fail
    go_ret
    exact ⟨by rw [← HR.out]; rfl, Below.refl _ _⟩
  have h0' : ((n : Int) == 0) = false := by rw [beq_eq_false_iff_ne]; omega
  rw [if_neg h0] at HR
  go_enter Tryd.func23, Tryd.ntmps23
  go_wp2_with fail
  refine WR.out.mono ?_
  rintro e w1 ⟨rfl, hb⟩
  have BB := Lib.hid hb
  clear hb WR h0
  by_cases hm : m = 0
  · subst hm
    go_wp2_with fail
    go_ret
    exact ⟨by rw [← HR.out]; rfl, BB.out⟩
  have hm' : ((m : Int) == 0) = false := by rw [beq_eq_false_iff_ne]; omega
  rw [if_neg hm] at HR
  clear hm
  by_cases h1 : n = 1
  · subst h1
    go_wp2_with fail
    go_ret
    exact ⟨by rw [← HR.out]; rfl, BB.out⟩
  · have h1' : ((n : Int) == 1) = false := by rw [beq_eq_false_iff_ne]; omega
    rw [if_neg h1] at HR
    clear h1
    go_wp2_with fail
    go_ret
    exact ⟨by rw [← HR.out]; rfl, BB.out⟩
set_option maxRecDepth 100000 in
theorem rkindL_any (v : Value) (L : List En) (w : World) (hv : ES w v L) (hl : L.length ≤ 1000) : Calls Tryd.prog 24 #[v] w fun e w' => e = .returned (.int .i64 (kindL L)) ∧ Below w.heap.size w w' := by
  have WR := Lib.hid (rwrites_any v L w hv hl)
  obtain ⟨a1, cp, rfl, hcap⟩ := hv.form
  clear hv
  obtain ⟨n, hn⟩ : ∃ n, L.length = n := ⟨_, rfl⟩
  obtain ⟨r, hr⟩ : ∃ r, kindL L = r := ⟨_, rfl⟩
  rw [hr]
  have HR := Lib.hid hr
  unfold kindL at HR
  rw [hn] at HR WR hl ⊢
  clear hn hr
  obtain ⟨m, hm⟩ : ∃ m, wrN L = m := ⟨_, rfl⟩
  rw [hm] at HR WR
  clear hm
  by_cases h0 : n = 0
  · subst h0
    go_enter Tryd.func24, Tryd.ntmps24
    go_wp2_with fail
    go_ret
    exact ⟨by rw [← HR.out]; rfl, Below.refl _ _⟩
  have h0' : ((n : Int) == 0) = false := by rw [beq_eq_false_iff_ne]; omega
  rw [if_neg h0] at HR
  go_enter Tryd.func24, Tryd.ntmps24
  go_wp2_with fail
  refine WR.out.mono ?_
  rintro e w1 ⟨rfl, hb⟩
  have BB := Lib.hid hb
  clear hb WR h0
  by_cases hm : m = 0
  · subst hm
    go_wp2_with fail
    go_ret
    exact ⟨by rw [← HR.out]; rfl, BB.out⟩
  have hm' : ((m : Int) == 0) = false := by rw [beq_eq_false_iff_ne]; omega
  rw [if_neg hm] at HR
  clear hm
  by_cases h1 : n = 1
  · subst h1
    go_wp2_with fail
    go_ret
    exact ⟨by rw [← HR.out]; rfl, BB.out⟩
  · have h1' : ((n : Int) == 1) = false := by rw [beq_eq_false_iff_ne]; omega
    rw [if_neg h1] at HR
    clear h1
    go_wp2_with fail
    go_ret
    exact ⟨by rw [← HR.out]; rfl, BB.out⟩
def chkP (L : List En) : Int := if L.length = 0 then 0 else chkL L
set_option maxRecDepth 100000 in
theorem checkPart_any (v : Value) (L : List En) (w : World) (hv : ES w v L) (hl : L.length ≤ 1000) : Calls Tryd.prog 37 #[v] w fun e w' => e = .returned (.int .i64 (chkP L)) ∧ Below w.heap.size w w' := by
  have CK := Lib.hid (checkL_any v L w hv hl)
  obtain ⟨a1, cp, rfl, hcap⟩ := hv.form
  clear hv
  obtain ⟨n, hn⟩ : ∃ n, L.length = n := ⟨_, rfl⟩
  unfold chkP
  rw [hn] at CK hl ⊢
  clear hn
  by_cases h0 : n = 0
  · subst h0
    go_enter Tryd.func37, Tryd.ntmps37
    go_wp2_with fail
    go_ret
    exact ⟨rfl, Below.refl _ _⟩
  · have h0' : ((n : Int) == 0) = false := by rw [beq_eq_false_iff_ne]; omega
    rw [if_neg h0]
    go_enter Tryd.func37, Tryd.ntmps37
    go_wp2_with fail
    refine CK.out.mono ?_
    rintro e w1 ⟨rfl, hb⟩
    have BB := Lib.hid hb
    clear hb CK
    go_wp2_with fail
    go_ret
    exact ⟨rfl, BB.out⟩
/-- The word behind an entry. -/
def resW (e : En) : Wd := if e.2.2.2 then (e.2.2.1, IntKind.u32.wrap (e.2.1.2.1 + 1), 0) else e.2.1
def compE (e f : En) : En := (e.1, e.2.1, f.2.2.1, e.2.2.2 || f.2.2.2)
set_option maxRecDepth 100000 in
theorem result_any (e : En) (w : World) : Calls Tryd.prog 38 #[enV e] w fun en w' => en = .returned (wdV (resW e)) ∧ Below w.heap.size w w' := by
  obtain ⟨y0, ⟨y1, y2, y3⟩, y4, y5⟩ := e
  unfold enV wdV resW
  simp only
  have BB := Lib.hid ((below1 w (.cells #[.int .i64 y0, .int .i64 y1, .int .u32 y2, .int .u32 y3, .int .i64 y4, .bool y5] 48)).alloc (by simp) (.cells #[.int .i64 0, .int .u32 0, .int .u32 0] 39))
  cases y5 with
  | true =>
    go_enter Tryd.func38, Tryd.ntmps38
    go_wp2_with fail
    exact bodyPost_ret (v := .agg #[.int .i64 y4, .int .u32 ((y2 + 1) % 4294967296), .int .u32 0]) (by simp [results, Tryd.results38, go_sem]) rfl ⟨rfl, (below1 w _).alloc (by simp) _⟩
  | false =>
    go_enter Tryd.func38, Tryd.ntmps38
    go_wp2_with fail
    exact bodyPost_ret (v := .agg #[.int .i64 y1, .int .u32 y2, .int .u32 y3]) (by simp [results, Tryd.results38, go_sem]) rfl ⟨rfl, (below1 w _).alloc (by simp) _⟩
set_option maxRecDepth 100000 in
set_option maxHeartbeats 1600000 in
theorem compose_any (e f : En) (w : World) : Calls Tryd.prog 39 #[enV e, enV f] w fun en w' => en = .returned (enV (compE e f)) ∧ Below w.heap.size w w' := by
  obtain ⟨y0, ⟨y1, y2, y3⟩, y4, y5⟩ := e
  obtain ⟨z0, ⟨z1, z2, z3⟩, z4, z5⟩ := f
  unfold enV compE
  simp only
  cases y5 with
  | true =>
    go_enter Tryd.func39, Tryd.ntmps39
    go_wp2_with fail
    exact bodyPost_ret (v := .agg #[.int .i64 y0, .int .i64 y1, .int .u32 y2, .int .u32 y3, .int .i64 z4, .bool true]) (by simp [results, Tryd.results39, go_sem]) rfl ⟨rfl, ((below1 w _).alloc (by simp) _).alloc (by simp; omega) _⟩
  | false =>
    go_enter Tryd.func39, Tryd.ntmps39
    go_wp2_with fail
    exact bodyPost_ret (v := .agg #[.int .i64 y0, .int .i64 y1, .int .u32 y2, .int .u32 y3, .int .i64 z4, .bool z5]) (by simp [results, Tryd.results39, go_sem]) rfl ⟨rfl, ((below1 w _).alloc (by simp) _).alloc (by simp; omega) _⟩
theorem infoEn : (Tryd.prog.info? 48).map (fun i => (i.zero, i.size, i.bytes)) = some (some (.agg #[.int .i64 0, .int .i64 0, .int .u32 0, .int .u32 0, .int .i64 0, .bool false]), 6, 40) := by kernel_rfl
set_option maxRecDepth 100000 in
set_option maxHeartbeats 1600000 in
theorem cloneE_any (v : Value) (L : List En) (w : World) (h : ES w v L) (hl : L.length ≤ 1000) : Calls Tryd.prog 28 #[v] w fun e w' => ∃ u, e = .returned u ∧ RowK enE 48 w.heap.size w' u L ∧ Below w.heap.size w w' := by
  have HV := Lib.hid h
  obtain ⟨a1, c1, rfl, hcap⟩ := h.form
  clear h
  obtain ⟨n, hn⟩ : ∃ n, L.length = n := ⟨_, rfl⟩
  rw [hn] at HV hl hcap ⊢
  have HN := Lib.hid hn
  clear hn
  cases a1 with
  | none =>
    have hnil := Lib.run_eql_slice_nil (P := Tryd.prog) w 22 _ none n c1 0 0 Tryd.underlying22
    have hL : L = [] := by
      obtain ⟨a', c', e, _, h | ⟨b, off, h, _⟩⟩ := HV.out
      · exact h
      · injection e with e1; rw [← e1] at h; cases h
    subst hL
    go_enter Tryd.func28, Tryd.ntmps28
    go_wp2_with fail
    go_ret
    exact ⟨_, rfl, RowK.nil _ _ _, Below.refl _ _⟩
  | some a =>
    have A1 := Lib.hid (below1 w (.cells #[] 48))
    have E1 := Lib.hid (RowK.ofBox (E := enE) (B := w.heap.size) (Box.new w #[] 48 rfl) (Nat.le_refl _) (L := []) rfl rfl (by simp))
    have S1 := Lib.hid (HV.out.below A1.out)
    have hnil := Lib.run_eql_slice_nil (P := Tryd.prog) w 22 _ (some a) n c1 0 0 Tryd.underlying22
    go_enter Tryd.func28, Tryd.ntmps28
    go_wp2_with (first
      | (at_builtin; refine wpList_appK Tryd.underlying22 infoEn rfl (by decide) _ rfl (.tmp 5) (.tmp 6) rfl rfl A1.out E1.out rfl S1.out (by simp; rw [HN.out]; omega) ?_; intro v3 w3 r3 b3 g3; obtain ⟨a6, c6, e6⟩ : ∃ a c, v3 = .slice a n c := (by obtain ⟨a, c, h, _⟩ := r3.form; exact ⟨a, c, by rw [h, List.nil_append, HN.out]⟩); subst e6; have R3 := Lib.hid r3; have B3 := Lib.hid b3; clear r3 b3 g3)
      | fail)
    go_ret
    exact ⟨_, rfl, by simpa using R3.out, B3.out⟩
end Go.Proofs.YtjphhfgomlchoaaDoor
