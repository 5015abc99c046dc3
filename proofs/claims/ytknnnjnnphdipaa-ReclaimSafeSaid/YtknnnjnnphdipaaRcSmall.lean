/- contains, Clone and Items of a bag; when an item is protected. -/
import Derived.Test.YtknnnjnnphdipaaRcBag
namespace Go.Proofs.Ytknnnjnnphdipaa
open Go.ChangeShapes Go.WideShapes Go.ChangeAt Go.RowKit Go.Maps
theorem arr64 : Try.prog.arrayLen 27 = 64 := by kernel_rfl
theorem arrEl : Try.prog.elem 27 = 26 := by kernel_rfl
theorem slice64 (w : World) (b n : Nat) (hn : n ≤ 64) : (Instr.sliceAt 27 (.pointer (some ⟨b, 0, none⟩)) none (some (.int .i64 n)) none).run Try.prog w = .ok (.slice (some ⟨b, 0, none⟩) n 64) w := by
  have ht : Try.prog.underlying 27 = some (.array (Try.prog.arrayLen 27) (Try.prog.elem 27)) := by kernel_rfl
  rw [run_sliceAt_array_h w 27 ⟨b, 0, none⟩ ht .i64 n (by omega) (by rw [arr64]; omega), arrEl, arr64]
  rw [show (sizeOf 26).run Try.prog w = .ok 3 w from Try.sizeOf26 w]
  simp [slicedAt, Result.andThen, Addr.add]
theorem BV.ps {cs : Array Value} {L : List It} (h : BV cs L) {w : World} {b : Nat} {t : TypeId} (hb : Box w b cs t) {n : Nat} (hn : L.length = n) : PS w (.slice (some ⟨b, 0, none⟩) n 64) L := by
  subst hn
  refine ⟨_, 64, rfl, h.len, .inr ⟨b, 0, rfl, hb.lt, fun i hi => ?_⟩⟩
  simp only [Nat.zero_add]
  rw [hb.cell, hb.cell, hb.cell]
  exact h.at_ i hi
def hasB (L : List It) (b : Int) : Bool := L.any (·.1 == b)
theorem hasB_iff (L : List It) (b : Int) : hasB L b = true ↔ ∃ x ∈ L, x.1 = b := by unfold hasB; simp
theorem mem_getD3 {L : List It} {x : It} (h : x ∈ L) : ∃ k, k < L.length ∧ L.getD k zIt = x := by
  obtain ⟨k, hk, e⟩ := List.getElem_of_mem h
  exact ⟨k, hk, by rw [List.getD, List.getElem?_eq_getElem hk]; exact e⟩
set_option maxRecDepth 100000 in
set_option maxHeartbeats 800000 in
theorem contains_any (cs : Array Value) (L : List It) (b : Int) (w : World) (h : BV cs L) : Calls Try.prog 20 #[.agg cs, .int .i64 b] w fun e w' => e = .returned (.bool (hasB L b)) ∧ Below w.heap.size w w' := by
  have H := Lib.hid h
  have hl := h.len
  clear h
  obtain ⟨n, hn⟩ : ∃ n, L.length = n := ⟨_, rfl⟩
  rw [hn] at hl
  have HN := Lib.hid hn
  clear hn
  obtain ⟨r, hr⟩ : ∃ r, hasB L b = r := ⟨_, rfl⟩
  rw [hr]
  have HR := Lib.hid hr
  clear hr
  have B0 := Lib.hid (Box.new w cs 29 rfl)
  have c0 : (w.alloc (.cells cs 29)).cell? ⟨w.heap.size, 192, none⟩ = some (.int .i64 n) := by rw [B0.out.cell, H.out.count, HN.out]
  have P0 := Lib.hid (H.out.ps B0.out HN.out)
  have BW := Lib.hid (below1 w (.cells cs 29))
  have sl := slice64 (w.alloc (.cells cs 29)) w.heap.size n hl
  go_enter Try.func20, Try.ntmps20
  go_wp2_with fail
  clear c0 sl
  generalize w.alloc (.cells cs 29) = W at P0 BW ⊢
  clear B0
  obtain ⟨q, hq⟩ : ∃ q, w.heap.size = q := ⟨_, rfl⟩
  rw [hq] at P0 ⊢
  have HQ := Lib.hid hq
  clear hq
  go_loopw [12] (fun iv wr => ∃ k : Nat, k ≤ n ∧ iv = .int .i64 k ∧ (∀ i, i < k → (L.getD i zIt).1 ≠ b) ∧ Below W.heap.size W wr) (fun iv _ => n - (intOf iv).toNat)
  case atStart => exact ⟨0, by omega, rfl, fun i hi => by omega, Below.refl _ _⟩
  case round =>
    obtain ⟨k, hk, rfl, hno, hb⟩ := hrel
    have NO := Lib.hid hno
    have BB := Lib.hid hb
    have hsz := hb.size
    clear hno hb
    by_cases hlt : k < n
    · obtain ⟨b', o', e, hbl, hc⟩ := P0.out.addr hlt
      injection e with e
      injection e with e1 e2
      subst e1 e2
      obtain ⟨c0, c1, c2⟩ := hc k hlt
      simp only [Nat.zero_add] at c0 c1 c2
      rw [← BB.out.cell (p := ⟨q, _, none⟩) hbl] at c0 c1 c2
      have HM := Lib.hid (getD_mem3 (L := L) (k := k) (by rw [HN.out]; exact hlt))
      clear hc
      obtain ⟨y, hy⟩ : ∃ y, L.getD k zIt = y := ⟨_, rfl⟩
      rw [hy] at c0 c1 c2 HM
      have HY := Lib.hid hy
      clear hy
      obtain ⟨y0, y1, y2⟩ := y
      simp only at c0 c1 c2
      by_cases he : y0 = b
      · subst he
        go_wp2_with fail
        go_ret
        refine ⟨?_, BW.out.trans ((BB.out.alloc hsz _).mono BW.out.size)⟩
        have e : r = true := HR.out.symm.trans ((hasB_iff L y0).2 ⟨_, HM.out, rfl⟩)
        rw [e]; rfl
      · have hxb : (y0 == b) = false := by rw [beq_eq_false_iff_ne]; exact he
        go_wp2_with fail
        go_roundw
        case rel =>
          refine ⟨k + 1, by omega, by go_num, fun i hi => ?_, BB.out.alloc hsz _⟩
          by_cases e : i = k
          · subst e; rw [HY.out]; exact he
          · exact NO.out i (by omega)
        case measure => simp [intOf]; omega
    · go_wp2_with fail
      go_ret
      refine ⟨?_, BW.out.trans (BB.out.mono BW.out.size)⟩
      have e : r = false := by
        rw [← HR.out]
        cases h : hasB L b with
        | false => rfl
        | true =>
          obtain ⟨x, hx, e⟩ := (hasB_iff L b).1 h
          obtain ⟨i, hi, e2⟩ := mem_getD3 hx
          exact absurd (by rw [e2]; exact e) (NO.out i (by rw [HN.out] at hi; omega))
      rw [e]; rfl
set_option maxRecDepth 100000 in
theorem clone_any (a : Addr) (n c : Nat) (L : List It) (w : World) (h : PS w (.slice (some a) n c) L) (hn : L.length = n) (hl : n ≤ 1000) : Calls Try.prog 24 #[.slice (some a) n c] w fun e w' => ∃ u, e = .returned u ∧ Row3 26 w.heap.size w' u L ∧ Below w.heap.size w w' := by
  have HN := Lib.hid hn
  clear hn
  have A1 := Lib.hid (below1 w (.cells #[] 26))
  have E1 := Lib.hid (Row3.ofBox (B := w.heap.size) (Box.new w #[] 26 rfl) (Nat.le_refl _) (L := []) rfl rfl (by simp))
  have S1 := Lib.hid (h.below A1.out)
  clear h
  have hnil := Lib.run_eql_slice_nil (P := Try.prog) w 22 _ (some a) n c 0 0 Try.underlying22
  go_enter Try.func24, Try.ntmps24
  go_wp2_with (first
    | (at_builtin; refine wpList_app3 Try.underlying22 infoT _ rfl (.tmp 5) (.tmp 6) rfl rfl A1.out E1.out rfl S1.out (by simp; rw [HN.out]; omega) ?_; intro v3 w3 r3 b3 g3; obtain ⟨a6, c6, e6⟩ : ∃ a c, v3 = .slice a n c := (by obtain ⟨a, c, h⟩ := r3.form; exact ⟨a, c, by rw [h, List.nil_append, HN.out]⟩); subst e6; have R3 := Lib.hid r3; have B3 := Lib.hid b3; clear r3 b3 g3)
    | fail)
  go_ret
  exact ⟨_, rfl, by simpa using R3.out, B3.out⟩
set_option maxRecDepth 100000 in
theorem items_any (cs : Array Value) (L : List It) (w : World) (h : BV cs L) : Calls Try.prog 16 #[.agg cs] w fun e w' => ∃ u, e = .returned u ∧ Row3 26 w.heap.size w' u L ∧ Below w.heap.size w w' := by
  have H := Lib.hid h
  have hl := h.len
  clear h
  obtain ⟨n, hn⟩ : ∃ n, L.length = n := ⟨_, rfl⟩
  rw [hn] at hl
  have HN := Lib.hid hn
  clear hn
  have B0 := Lib.hid (Box.new w cs 29 rfl)
  have c0 : (w.alloc (.cells cs 29)).cell? ⟨w.heap.size, 192, none⟩ = some (.int .i64 n) := by rw [B0.out.cell, H.out.count, HN.out]
  have P0 := Lib.hid (H.out.ps B0.out HN.out)
  have BW := Lib.hid (below1 w (.cells cs 29))
  have sl := slice64 (w.alloc (.cells cs 29)) w.heap.size n hl
  go_enter Try.func16, Try.ntmps16
  go_wp2_with fail
  refine (clone_any _ n 64 L _ P0.out HN.out (by omega)).mono ?_
  rintro e w1 ⟨u, rfl, hr, hb⟩
  obtain ⟨a2, c2, rfl⟩ := hr.form
  have RR := Lib.hid hr
  have BB := Lib.hid (BW.out.trans (hb.mono BW.out.size))
  have hs := BW.out.size
  clear hr hb c0 sl
  go_wp2_with fail
  go_ret
  exact ⟨_, rfl, RR.out.mono hs, BB.out⟩
/-- Whether an era lies within the lifetime. -/
def byE (x : It) (e : Int) : Bool := decide (e ≠ 0 ∧ x.2.1 ≤ e ∧ e ≤ x.2.2)
set_option maxRecDepth 100000 in
theorem byE_any (x : It) (e : Int) (w : World) : Calls Try.prog 29 #[itV x, .int .i64 e] w fun en w' => en = .returned (.bool (byE x e)) ∧ Below w.heap.size w w' := by
  obtain ⟨x0, x1, x2⟩ := x
  unfold itV byE
  simp only
  by_cases h0 : e = 0
  · subst h0
    go_enter Try.func29, Try.ntmps29
    go_wp2_with fail
    go_ret
    exact ⟨by simp, below1 _ _⟩
  · have hb : (e != 0) = true := by rw [bne_iff_ne]; exact h0
    by_cases h1 : x1 ≤ e
    · by_cases h2 : e ≤ x2
      · go_enter Try.func29, Try.ntmps29
        go_wp2_with fail
        go_ret
        exact ⟨by simp [h0, h1, h2], below1 _ _⟩
      · go_enter Try.func29, Try.ntmps29
        go_wp2_with fail
        go_ret
        exact ⟨by simp <;> omega, below1 _ _⟩
    · go_enter Try.func29, Try.ntmps29
      go_wp2_with fail
      go_ret
      exact ⟨by simp <;> omega, below1 _ _⟩
def I64 (x : Int) : Prop := -9223372036854775808 ≤ x ∧ x < 9223372036854775808
/-- Whether a hazard pointer names the block. -/
def atP (x : It) (h : Int) : Bool := decide (h = x.1 + 1)
set_option maxRecDepth 100000 in
theorem atP_any (x : It) (h : Int) (w : World) (hx : I64 x.1) (hh : I64 h) : Calls Try.prog 30 #[itV x, .int .i64 h] w fun en w' => en = .returned (.bool (atP x h)) ∧ Below w.heap.size w w' := by
  obtain ⟨x0, x1, x2⟩ := x
  unfold itV atP
  unfold I64 at hx hh
  simp only at *
  obtain ⟨a1, a2⟩ := hx
  obtain ⟨b1, b2⟩ := hh
  by_cases h0 : x0 < h
  · by_cases h1 : h = x0 + 1
    · have hq : (h - 1 == x0) = true := by rw [beq_iff_eq]; omega
      have HH := Lib.hid h1
      clear h1
      go_enter Try.func30, Try.ntmps30
      go_wp2_with fail
      go_ret
      exact ⟨by simp [HH.out], below1 _ _⟩
    · have hq : (h - 1 == x0) = false := by rw [beq_eq_false_iff_ne]; omega
      have HH := Lib.hid h1
      clear h1
      go_enter Try.func30, Try.ntmps30
      go_wp2_with fail
      go_ret
      exact ⟨by simp [HH.out], below1 _ _⟩
  · go_enter Try.func30, Try.ntmps30
    go_wp2_with fail
    go_ret
    exact ⟨by simp; omega, below1 _ _⟩
end Go.Proofs.Ytknnnjnnphdipaa
