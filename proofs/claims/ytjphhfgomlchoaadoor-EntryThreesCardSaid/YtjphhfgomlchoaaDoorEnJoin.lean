/- The text of a list of entries. -/
import Derived.Test.YtjphhfgomlchoaaDoorEnText
import Derived.Laws.MakeOwn
import Derived.Laws.OwnMore
namespace Go.Proofs.YtjphhfgomlchoaaDoor
open Go.ChangeShapes Go.WideShapes Go.ChangeAt Go.RowKit
theorem extra156 : Builder.Extra Tryd.prog Tryd.lays156_ren := {
  sizeBuilder := by kernel_rfl
  liesBuilder := by kernel_rfl
  t5 := Tryd.underlying5
  a5 := Tryd.isAgg5
  z5 := Tryd.sizeOf5
  v5 := Tryd.zeroValue5
  infoByte := by kernel_rfl
  cellsByte := by kernel_rfl
  sizeByte := by kernel_rfl
  neB5 := by decide }
def stE : Enc ByteArray where
  k := 1
  enc s := [.string s]
  len _ := rfl
  one x u hu := by
    simp only [List.mem_cons, List.not_mem_nil, or_false] at hu
    rw [hu]; rfl
  pos := by decide
def tb (e : En) : ByteArray := ⟨(textE e).toArray⟩
def strs (L : List En) (k : Nat) : List ByteArray := (L.take k).map tb ++ List.replicate (L.length - k) ⟨#[]⟩
theorem strs_len (L : List En) {k : Nat} (h : k ≤ L.length) : (strs L k).length = L.length := by unfold strs; simp; omega
theorem strs_set (L : List En) {k : Nat} (h : k < L.length) : (strs L k).set k (tb L[k]!) = strs L (k + 1) := by
  unfold strs
  have e : ((L.take k).map tb).length = k := by simp; omega
  rw [List.set_append_right _ _ (by rw [e]; exact Nat.le_refl _), e, Nat.sub_self, take_snoc L h, List.map_append, List.append_assoc]
  obtain ⟨m, hm⟩ : ∃ m, L.length - k = m + 1 := ⟨L.length - k - 1, by omega⟩
  rw [hm, show L.length - (k + 1) = m by omega, List.replicate_succ, List.set_cons_zero]
  rfl
theorem strs_all (L : List En) : strs L L.length = L.map tb := by unfold strs; simp
def textL (L : List En) : List UInt8 := Lib.join (L.map textE) [32]
theorem tail_len (r : List (List UInt8)) (c : Nat) (h : ∀ x ∈ r, x.length ≤ c) : (Lib.joinTail [32] r).length ≤ r.length * (c + 1) := by
  unfold Lib.joinTail
  induction r with
  | nil => simp
  | cons x r ih =>
    have h1 := h x (by simp)
    have h2 := ih fun y hy => h y (by simp [hy])
    simp only [List.map_cons, List.flatten_cons, List.length_append, List.length_cons, List.length_nil] at h2 ⊢
    rw [Nat.succ_mul]
    omega
theorem join_len (r : List (List UInt8)) (c : Nat) (h : ∀ x ∈ r, x.length ≤ c) : (Lib.join r [32]).length ≤ r.length * (c + 1) := by
  cases r with
  | nil => simp [Lib.join_nil]
  | cons x r =>
    rw [Lib.join_cons, List.length_append, List.length_cons, Nat.succ_mul]
    have := tail_len r c fun y hy => h y (by simp [hy])
    have h1 := h x (by simp)
    omega
theorem textE_len (e : En) (h : OkE e) : (textE e).length ≤ 300 := by
  obtain ⟨⟨a0, a1⟩, ⟨⟨v0, v1⟩, ⟨n0, n1⟩, ⟨r0, r1⟩⟩, ⟨z0, z1⟩⟩ := h
  have lA := Lib.itoa_length_le e.1 (by omega) (by omega)
  have lN := Lib.itoa_length_le e.2.2.1 (by omega) (by omega)
  have lT := textOf_len e.2.1.1 e.2.1.2.1 e.2.1.2.2 (by omega) (by omega) n1 r1
  unfold textE
  split
  · simp; omega
  · simp; omega
theorem row_cell1 {B : Nat} {w : World} {g n c : Nat} {S : List ByteArray} (h : RowK stE 9 B w (.slice (some ⟨g, 0, none⟩) n c) S) {k : Nat} (hk : k < S.length) : w.cell? ⟨g, k, none⟩ = some (.string S[k]!) := by
  obtain ⟨a', c', e, _, h⟩ := h.sk
  injection e with e1 e2 e3
  rcases h with h | ⟨b, off, h1, h2, h3⟩
  · subst h; simp at hk
  · rw [← e1] at h1
    injection h1 with h1
    injection h1 with h1 h4
    subst h1 h4
    have := h3 k hk 0 _ rfl
    rw [show 0 + k * stE.k + 0 = k by simp [stE]] at this
    exact this
set_option maxRecDepth 100000 in
set_option maxHeartbeats 3200000 in
theorem textL_any (v : Value) (L : List En) (w : World) (hv : ES w v L) (hl : L.length ≤ 1000) (ho : ∀ e ∈ L, OkE e) (ht : Tab w) : Calls Tryd.prog 17 #[v] w fun e w' => e = .returned (.string ⟨(textL L).toArray⟩) ∧ Below w.heap.size w w' := by
  have HV := Lib.hid hv
  have OK := Lib.hid ho
  have TT := Lib.hid ht
  obtain ⟨a1, cp, rfl, hcap⟩ := hv.form
  clear hv ho ht
  have HJ : Hid (∀ (bk : Nat) (W : World), RowK stE 9 w.heap.size W (.slice (some ⟨bk, 0, none⟩) L.length L.length) (L.map tb) → bk < W.heap.size → Calls Tryd.prog 34 #[.slice (some ⟨bk, 0, none⟩) L.length L.length, .string ⟨#[32]⟩] W fun e w' => e = .returned (.string ⟨(textL L).toArray⟩) ∧ Below W.heap.size W w') := Lib.hid (fun bk W hr hb => by
    have hj := Any.strings_Join Tryd.lays156 extra156 bk 0 L.length (L.map tb) ⟨#[32]⟩ W (fun j x hx => by
      have hj2 : j < (L.map tb).length := by
        rcases Nat.lt_or_ge j (L.map tb).length with h | h
        · exact h
        · rw [List.getElem?_eq_none h] at hx; cases hx
      rw [Nat.zero_add, row_cell1 hr hj2, getElem!_pos (L.map tb) j hj2]
      rw [List.getElem?_eq_getElem hj2] at hx
      injection hx with hx
      rw [hx]) hb (by simp; omega) (by simp) (by
      rw [List.map_map, show ((fun x : ByteArray => x.data.toList) ∘ tb) = textE from by funext e; simp [tb]]
      have := join_len (L.map textE) 300 (fun x hx => by obtain ⟨e, he, rfl⟩ := List.mem_map.1 hx; exact textE_len e (OK.out e he))
      rw [List.length_map] at this
      have e2 : (ByteArray.mk #[32]).data.toList = [32] := rfl
      rw [e2]
      omega)
    rw [List.length_map, List.map_map, show ((fun x : ByteArray => x.data.toList) ∘ tb) = textE from by funext e; simp [tb]] at hj
    exact hj)
  obtain ⟨n, hn⟩ : ∃ n, L.length = n := ⟨_, rfl⟩
  rw [hn] at HV hl hcap HJ ⊢
  have HN := Lib.hid hn
  clear hn
  obtain ⟨ist, hist, z1, z2, z3⟩ := info_parts (by kernel_rfl : (Tryd.prog.info? 9).map (fun i => (i.zero, i.size, i.bytes)) = some (some (.string ⟨#[]⟩), 1, 16))
  have mk := run_makeSlice (P := Tryd.prog) w 57 9 ist (.string ⟨#[]⟩) Tryd.underlying57 hist z1 .i64 .i64 n n (by omega) (Int.le_refl _) (by rw [z2]; simp; omega) (by rw [z3]; omega) (by omega)
  rw [Int.toNat_natCast, z2, Nat.mul_one, show (Value.string ⟨#[]⟩).cells = #[.string ⟨#[]⟩] from rfl] at mk
  have R0 : Hid (RowK stE 9 w.heap.size (w.alloc (.cells (madeCells #[.string ⟨#[]⟩] n) 9)) (.slice (some ⟨w.heap.size, 0, none⟩) n n) (strs L 0)) := Lib.hid (by
    refine RowK.ofBox (Box.new w _ 9 rfl) (Nat.le_refl _) (by rw [strs_len L (by omega), HN.out]) ?_ (by rw [strs_len L (by omega), HN.out]; omega)
    rw [toList_madeCells_one]
    unfold strs
    rw [List.take_zero, List.map_nil, List.nil_append, Nat.sub_zero, HN.out]
    clear HJ mk HV hcap hl HN
    induction n with
    | zero => rfl
    | succ n ih => rw [List.replicate_succ, List.replicate_succ, ih]; rfl)
  have BB := Lib.hid (below1 w (.cells (madeCells #[.string ⟨#[]⟩] n) 9))
  clear hist z1 z2 z3
  go_enter Tryd.func17, Tryd.ntmps17
  go_upto_region 2 with fail
  clear mk
  generalize w.alloc (.cells (madeCells #[.string ⟨#[]⟩] n) 9) = W at *
  obtain ⟨g, hg⟩ : ∃ g, w.heap.size = g := ⟨_, rfl⟩
  have HG := Lib.hid hg
  rw [hg] at R0 ⊢
  have HJ2 := HJ
  rw [hg] at HJ2
  clear hg HJ
  go_wp2_with fail
  go_loopw [11] (fun iv wr => ∃ k : Nat, k ≤ n ∧ iv = .int .i64 k ∧ RowK stE 9 g wr (.slice (some ⟨g, 0, none⟩) n n) (strs L k) ∧ Below w.heap.size w wr) (fun iv _ => n - (intOf iv).toNat)
  case atStart => exact ⟨0, by omega, rfl, R0.out, BB.out⟩
  case round =>
    obtain ⟨k, hk, rfl, hr, hb⟩ := hrel
    replace BB := Lib.hid hb
    have R := Lib.hid hr
    clear hb hr R0
    by_cases hlt : k < n
    · obtain ⟨b, off, rfl, hbl, hln, hc⟩ := HV.out.addr hlt
      obtain ⟨c0, c1, c2, c3, c4, c5⟩ := en_cells hc (by rw [hln]; exact hlt)
      rw [← BB.out.cell (p := ⟨b, _, none⟩) hbl] at c0 c1 c2 c3 c4 c5
      have TX := Lib.hid (fun W h => textE_any L[k]! W (OK.out _ (mem_at (by rw [HN.out]; exact hlt))) h)
      have SS := Lib.hid (strs_set L (k := k) (by rw [HN.out]; exact hlt))
      have SL := Lib.hid (strs_len L (k := k) (by rw [HN.out]; omega))
      rw [HN.out] at SL
      clear hc hln
      unfold enV at TX
      unfold tb at SS
      obtain ⟨y, hy⟩ : ∃ y, L[k]! = y := ⟨_, rfl⟩
      rw [hy] at c0 c1 c2 c3 c4 c5 TX SS
      clear hy
      obtain ⟨y0, ⟨y1, y2, y3⟩, y4, y5⟩ := y
      simp only at c0 c1 c2 c3 c4 c5 TX
      obtain ⟨T, hT⟩ : ∃ t, textE (y0, (y1, y2, y3), y4, y5) = t := ⟨_, rfl⟩
      rw [hT] at TX SS
      clear hT
      obtain ⟨S, hS⟩ : ∃ S, strs L k = S := ⟨_, rfl⟩
      rw [hS] at R SS SL
      clear hS
      go_upto_region 5 with fail
      have X := Lib.hid (Box.new wr #[.int .i64 y0, .int .i64 y1, .int .u32 y2, .int .u32 y3, .int .i64 y4, .bool y5] 48 rfl)
      replace R := Lib.hid (R.out.below (below1 wr (.cells #[.int .i64 y0, .int .i64 y1, .int .u32 y2, .int .u32 y3, .int .i64 y4, .bool y5] 48)))
      replace BB := Lib.hid (BB.out.alloc BB.out.size (.cells #[.int .i64 y0, .int .i64 y1, .int .u32 y2, .int .u32 y3, .int .i64 y4, .bool y5] 48))
      generalize wr.alloc (.cells #[.int .i64 y0, .int .i64 y1, .int .u32 y2, .int .u32 y3, .int .i64 y4, .bool y5] 48) = W4 at *
      generalize wr.heap.size = q at *
      clear c0 c1 c2 c3 c4 c5
      have x0 := X.out.cell 0
      have x1 := X.out.cell 1
      have x2 := X.out.cell 2
      have x3 := X.out.cell 3
      have x4 := X.out.cell 4
      have x5 := X.out.cell 5
      simp at x0 x1 x2 x3 x4 x5
      go_wp2_with fail
      refine (TX.out W4 (TT.out.below BB.out)).mono ?_
      rintro e w5 ⟨rfl, hb⟩
      replace R := Lib.hid (R.out.below hb)
      replace BB := Lib.hid (BB.out.trans (hb.mono BB.out.size))
      clear hb x0 x1 x2 x3 x4 x5 X
      have hkS : k < S.length := by rw [SL.out]; exact hlt
      have cf := R.out.free k
      have cc := row_cell1 R.out hkS
      have NR : Hid (RowK stE 9 g (w5.setCell ⟨g, k, none⟩ (.string ⟨T.toArray⟩)) (.slice (some ⟨g, 0, none⟩) n n) (strs L (k + 1))) := Lib.hid (by
        rw [← SS.out]
        have := R.out.set (i := k) (j := 0) (u := .string ⟨T.toArray⟩) (a := ⟨T.toArray⟩) hkS (by decide) rfl
        rw [show k * stE.k + 0 = k by simp [stE]] at this
        exact this)
      have NB : Hid (Below w.heap.size w (w5.setCell ⟨g, k, none⟩ (.string ⟨T.toArray⟩))) := Lib.hid (by
        rw [HG.out]
        exact R.out.setBelow (HG.out ▸ BB.out) k _)
      clear hkS
      go_wp2_with fail
      go_roundw
      case rel => exact ⟨k + 1, by omega, by go_num, NR.out, NB.out⟩
      case measure => simp [intOf]; omega
    · obtain rfl : k = n := by omega
      have RF : Hid (RowK stE 9 g wr (.slice (some ⟨g, 0, none⟩) k k) (L.map tb)) := Lib.hid (by rw [← strs_all, HN.out]; exact R.out)
      have hgl : g < wr.heap.size := by
        rw [← HG.out]
        obtain ⟨h1, ⟨h2, h3⟩ | ⟨g', cap, cur, hv, hB, hh, _⟩⟩ := R.out
        · cases h2
        · injection hv with e1; injection e1 with e1; injection e1 with e1; rw [HG.out, e1]; exact lt_block hh
      have HJ3 := Lib.hid (HJ2.out g wr RF.out hgl)
      clear HJ2
      go_wp2_with fail
      refine HJ3.out.mono ?_
      rintro e w9 ⟨rfl, hb⟩
      replace BB := Lib.hid (BB.out.trans (hb.mono BB.out.size))
      clear hb HJ3
      go_wp2_with fail
      go_ret
      exact ⟨rfl, BB.out⟩
end Go.Proofs.YtjphhfgomlchoaaDoor
