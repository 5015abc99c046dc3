/- The contract of New. -/
import Derived.Test.YtbaljoehgdhhhaaSwap
import Derived.Deep.LoopGhost
namespace Go.Proofs.Ytbaljoehgdhhhaa
open Go.RowKit Go.Shelf Go.Maps

abbrev Wd := Int × Int × Int
/-- The slice v holds the words l. -/
def IsWords (w : World) (v : Value) (l : List Wd) : Prop :=
  (∃ a cap, v = .slice a 0 cap ∧ l = []) ∨ ∃ b off cap, v = .slice (some ⟨b, off, none⟩) l.length cap ∧ b < w.heap.size ∧ ∀ i, i < l.length → w.cell? ⟨b, off + i * 3, none⟩ = some (.int .i64 (l.getD i (0, 0, 0)).1) ∧ w.cell? ⟨b, off + i * 3 + 1, none⟩ = some (.int .u32 (l.getD i (0, 0, 0)).2.1) ∧ w.cell? ⟨b, off + i * 3 + 2, none⟩ = some (.int .u32 (l.getD i (0, 0, 0)).2.2)
theorem IsWords.below {w w1 : World} {v : Value} {l : List Wd} (h : IsWords w v l) (hb : Below w.heap.size w w1) : IsWords w1 v l := by
  rcases h with h | ⟨b, off, cap, h1, h2, h3⟩
  · exact .inl h
  · refine .inr ⟨b, off, cap, h1, Nat.lt_of_lt_of_le h2 hb.size, fun i hi => ?_⟩
    obtain ⟨c0, c1, c2⟩ := h3 i hi
    exact ⟨(hb.cell h2).trans c0, (hb.cell h2).trans c1, (hb.cell h2).trans c2⟩
theorem IsWords.slice {w : World} {v : Value} {l : List Wd} (h : IsWords w v l) : ∃ a cap, v = .slice a l.length cap := by
  rcases h with ⟨a, cap, rfl, rfl⟩ | ⟨b, off, cap, rfl, -, -⟩
  · exact ⟨a, cap, rfl⟩
  · exact ⟨_, cap, rfl⟩

def firstMsg (x : Wd) : Msg := ⟨x.1, x.2.1, x.2.2, 0, []⟩
def newMem (t : Nat) (l : List Wd) : Mem := ⟨l.map fun x => [firstMsg x], List.replicate t []⟩
theorem newMem_good (t : Nat) (l : List Wd) (h1 : l.length ≤ 4096) (h2 : t ≤ 8) : (newMem t l).Good 1 := by
  refine ⟨by simpa [newMem] using h1, by simpa [newMem] using h2, fun h hh => ?_⟩
  obtain ⟨x, _, rfl⟩ := List.mem_map.1 hh
  simp

/-- The error number of New. -/
def newErr (t : Int) (n : Nat) : Int := if t < 1 ∨ 8 < t then 3 else if n = 0 then 8 else if 4096 < n then 15 else 0

set_option maxRecDepth 100000 in
set_option maxHeartbeats 1600000 in
theorem new_err (t : Int) (a : Option Addr) (n cap : Nat) (w : World) (h : newErr t n ≠ 0) :
    Calls Try.prog 11 #[.int .i64 t, .slice a n cap] w fun e w' => e = .returned (.tuple #[.agg #[.slice none 0 0, .slice none 0 0], .int .i64 (newErr t n)]) ∧ Below w.heap.size w w' := by
  have BB := Lib.hid (below_new w (.cells #[.slice none 0 0, .slice none 0 0] 31))
  unfold newErr at *
  by_cases h1 : t < 1
  · rw [if_pos (.inl h1)]
    go_enter Try.func11, Try.ntmps11
    go_wp2
    refine bodyPost_ret (v := .tuple #[.agg #[.slice none 0 0, .slice none 0 0], .int .i64 3]) (by simp [results, Try.f11, go_sem]) rfl ?_
    exact ⟨rfl, BB.out⟩
  · by_cases h2 : 8 < t
    · rw [if_pos (.inr h2)]
      go_enter Try.func11, Try.ntmps11
      go_wp2
      refine bodyPost_ret (v := .tuple #[.agg #[.slice none 0 0, .slice none 0 0], .int .i64 3]) (by simp [results, Try.f11, go_sem]) rfl ?_
      exact ⟨rfl, BB.out⟩
    · rw [if_neg (by omega)] at h ⊢
      by_cases h3 : n = 0
      · subst h3
        rw [if_pos rfl]
        clear h
        go_enter Try.func11, Try.ntmps11
        go_wp2
        refine bodyPost_ret (v := .tuple #[.agg #[.slice none 0 0, .slice none 0 0], .int .i64 8]) (by simp [results, Try.f11, go_sem]) rfl ?_
        exact ⟨rfl, BB.out⟩
      · rw [if_neg h3] at h ⊢
        by_cases h4 : 4096 < n
        · rw [if_pos h4]
          have hz : ((n : Int) == 0) = false := by simp; omega
          clear h
          go_enter Try.func11, Try.ntmps11
          go_wp2
          refine bodyPost_ret (v := .tuple #[.agg #[.slice none 0 0, .slice none 0 0], .int .i64 15]) (by simp [results, Try.f11, go_sem]) rfl ?_
          exact ⟨rfl, BB.out⟩
        · rw [if_neg h4] at h
          exact absurd rfl h

structure AtN (w : World) (b4 bP n : Nat) (l : List Wd) (k : Nat) (W : World) : Prop where
  r : Box W b4 #[.slice none 0 0, .slice none 0 0] 31
  h : ∃ P : List PL, P.length = k ∧ P.map (fun x => x.2.map (·.1)) = (l.take k).map (fun x => [firstMsg x]) ∧ Box W bP (List.toArray (P.map (fun y : PL => y.1) ++ List.replicate (n - k) (Value.slice none 0 0))) 65 ∧
      ∀ x ∈ P, HW W x.1 x.2 ∧ ∀ a m c, x.1 = .slice (some a) m c → a.block ≠ bP ∧ a.block ≠ b4 ∧ w.heap.size ≤ a.block
  g : Below w.heap.size w W

theorem take_map_add {l : List Wd} {k : Nat} (hk : k < l.length) : (l.take (k + 1)).map (fun x => [firstMsg x]) = (l.take k).map (fun x => [firstMsg x]) ++ [[firstMsg (l.getD k (0, 0, 0))]] := by
  rw [List.take_add_one, List.getElem?_eq_getElem hk, List.getD_eq_getElem?_getD, List.getElem?_eq_getElem hk]
  simp only [List.map_append, Option.toList, List.map_cons, List.map_nil, Option.getD]
theorem set_fill (A : List Value) (n k : Nat) (z v : Value) (hk : k < n) (hA : A.length = k) : (A ++ List.replicate (n - k) z).set k v = (A ++ [v]) ++ List.replicate (n - (k + 1)) z := by
  subst hA
  obtain ⟨m, hm⟩ : ∃ m, n - A.length = m + 1 := ⟨n - A.length - 1, by omega⟩
  rw [List.set_append_right _ _ (Nat.le_refl _), hm, show n - (A.length + 1) = m by omega]
  simp [List.replicate_succ]

set_option maxRecDepth 100000 in
set_option maxHeartbeats 3200000 in
theorem new_ok (t : Nat) (b off cap : Nat) (l : List Wd) (w : World) (h0 : 0 < l.length) (h1 : l.length ≤ 4096) (t0 : 1 ≤ t) (t1 : t ≤ 8) (hbl : b < w.heap.size) (hc : ∀ i, i < l.length → w.cell? ⟨b, off + i * 3, none⟩ = some (.int .i64 (l.getD i (0, 0, 0)).1) ∧ w.cell? ⟨b, off + i * 3 + 1, none⟩ = some (.int .u32 (l.getD i (0, 0, 0)).2.1) ∧ w.cell? ⟨b, off + i * 3 + 2, none⟩ = some (.int .u32 (l.getD i (0, 0, 0)).2.2)) :
    Calls Try.prog 11 #[.int .i64 t, .slice (some ⟨b, off, none⟩) l.length cap] w fun e w' => ∃ pv vv, e = .returned (.tuple #[.agg #[pv, vv], .int .i64 0]) ∧ MD (fun b => w.heap.size ≤ b) w' pv vv (newMem t l) ∧ Below w.heap.size w w' := by
  have HC := Lib.hid hc
  clear hc
  obtain ⟨n, hn⟩ : ∃ n, l.length = n := ⟨_, rfl⟩
  have HN := Lib.hid hn
  rw [hn] at h0 h1 ⊢
  have hz : ((n : Int) == 0) = false := by simp; omega
  obtain ⟨ti, hti, hz0, hz1, hz2⟩ := info_parts infoH
  obtain ⟨tj, htj, hy0, hy1, hy2⟩ := info_parts infoV
  go_enter Try.func11, Try.ntmps11
  go_wp2_with (first | (at_make; refine wpList_make_full _ rfl _ _ 28 rfl 0 65 ti _ 1 Try.underlying28 hti hz0 hz1 _ _ _ _ n rfl rfl (by omega) (by omega) (by rw [hz2]; omega) (by unfold maxLen; omega) (Nat.zero_le _) ?_))
  intro w1 hown hg
  have hk := own_block hown
  rw [toList_madeCells_one] at hk
  have B1 := (Below.refl _ _).grown hg (Nat.le_refl _) (fun j hj => by cases hj)
  simp only [World.size_alloc] at B1 hk
  have R4 := Lib.hid (Box.below (Box.new w #[.slice none 0 0, .slice none 0 0] 31 rfl) (by simpa using B1))
  have BB := Lib.hid ((below_new w (.cells #[.slice none 0 0, .slice none 0 0] 31)).trans (B1.mono (by simp)))
  have BK := Lib.hid (show Box w1 (w.heap.size + 1) (List.replicate n (.slice none 0 0)).toArray 65 from hk)
  clear hown hg hk B1
  obtain ⟨bP, hbP⟩ : ∃ br, w.heap.size + 1 = br := ⟨_, rfl⟩
  obtain ⟨b4, hb4⟩ : ∃ br, w.heap.size = br := ⟨_, rfl⟩
  rw [hbP] at BK ⊢
  have hbq := hb4
  rw [hb4] at R4 hbP ⊢
  go_wp2_with fail
  go_loopw [32] (fun iv wr => ∃ k : Nat, k ≤ n ∧ iv = .int .i64 k ∧ AtN w b4 bP n l k wr) (fun iv _ => n - (intOf iv).toNat)
  case atStart => exact ⟨0, by omega, by simp, R4.out, ⟨[], rfl, rfl, by simpa using BK.out, by simp⟩, BB.out⟩
  case round =>
    obtain ⟨k, hk, rfl, R4', ⟨P, hPl, hPm, BK', HP'⟩, BB'⟩ := hrel
    clear R4 BK BB
    have R4 := Lib.hid R4'
    have BK := Lib.hid BK'
    have HPP := Lib.hid HP'
    have BB := Lib.hid BB'
    have HPM := Lib.hid hPm
    clear R4' BK' HP' BB' hPm
    by_cases hlt : k < n
    · obtain ⟨c0, c1, c2⟩ := HC.out k (by rw [HN.out]; exact hlt)
      rw [← BB.out.cell hbl] at c0 c1 c2
      have HT := Lib.hid (take_map_add (l := l) (k := k) (by rw [HN.out]; exact hlt))
      generalize l.getD k (0, 0, 0) = x at *
      go_upto_region 11 with fail
      clear c0 c1 c2
      have l4 := R4.out.lt
      have lK := BK.out.lt
      have B8 := Lib.hid (Box.new wr #[.int .i64 x.1, .int .u32 x.2.1, .int .u32 x.2.2] 45 rfl)
      have R4' := Lib.hid (R4.out.alloc (.cells #[.int .i64 x.1, .int .u32 x.2.1, .int .u32 x.2.2] 45))
      have BK' := Lib.hid (BK.out.alloc (.cells #[.int .i64 x.1, .int .u32 x.2.1, .int .u32 x.2.2] 45))
      have BB' := Lib.hid (BB.out.alloc BB.out.size (.cells #[.int .i64 x.1, .int .u32 x.2.1, .int .u32 x.2.2] 45))
      have HPP' := Lib.hid (fun y hy => (⟨(HPP.out y hy).1.alloc (.cells #[.int .i64 x.1, .int .u32 x.2.1, .int .u32 x.2.2] 45), (HPP.out y hy).2⟩ : HW (wr.alloc (.cells #[.int .i64 x.1, .int .u32 x.2.1, .int .u32 x.2.2] 45)) y.1 y.2 ∧ ∀ a m c, y.1 = .slice (some a) m c → a.block ≠ bP ∧ a.block ≠ b4 ∧ w.heap.size ≤ a.block))
      clear R4 BK BB HPP
      generalize wr.alloc (.cells #[.int .i64 x.1, .int .u32 x.2.1, .int .u32 x.2.2] 45) = W0 at *
      obtain ⟨⟨m0, m1, m2⟩, -⟩ := B8.out.cells3
      go_wp2_with fail
      refine (new_any x.1 x.2.1 x.2.2 _).mono ?_
      rintro e w2 ⟨bh, hbh, rfl, hh, hb⟩
      have l4b := R4'.out.lt
      have lKb := BK'.out.lt
      have R4 := Lib.hid (R4'.out.below hb)
      have BK := Lib.hid (BK'.out.below hb)
      have BB := Lib.hid (BB'.out.trans (hb.mono BB'.out.size))
      have HPP := Lib.hid (fun y hy => (⟨(HPP'.out y hy).1.below hb, (HPP'.out y hy).2⟩ : HW w2 y.1 y.2 ∧ ∀ a m c, y.1 = .slice (some a) m c → a.block ≠ bP ∧ a.block ≠ b4 ∧ w.heap.size ≤ a.block))
      have HH := Lib.hid hh
      clear hb hh R4' BK' BB' HPP' B8 m0 m1 m2
      simp only [List.length_cons, List.length_nil, Nat.zero_add] at HH ⊢
      have lr : (P.map (·.1) ++ List.replicate (n - k) (Value.slice none 0 0)).length = n := by simp; omega
      obtain ⟨u, hu⟩ : ∃ u, w2.cell? ⟨bP, k, none⟩ = some u := ⟨_, by rw [BK.out.cell k, List.getElem?_toArray]; exact List.getElem?_eq_getElem (by rw [lr]; exact hlt)⟩
      have hf := BK.out.free k
      have on := (Only.refl bP w2).set k (.slice (some ⟨bh, 0, none⟩) 1 1)
      have bx := BK.out.set k (.slice (some ⟨bh, 0, none⟩) 1 1)
      have F : AtN w b4 bP n l (k + 1) (w2.setCell ⟨bP, k, none⟩ (.slice (some ⟨bh, 0, none⟩) 1 1)) := by
        refine ⟨R4.out.only (by omega) on, ⟨P ++ [(.slice (some ⟨bh, 0, none⟩) 1 1, [(firstMsg x, none)])], by simp [hPl], by rw [HT.out, ← HPM.out]; simp, ?_, fun y hy => ?_⟩, BB.out.put bP (by omega) k _⟩
        · have := bx
          rw [List.setIfInBounds_toArray, set_fill _ n k _ _ hlt (by simp [hPl])] at this
          simpa using this
        · rcases List.mem_append.1 hy with hy | hy
          · exact ⟨(HPP.out y hy).1.only BK.out (fun a m c e => ((HPP.out y hy).2 a m c e).1) on, (HPP.out y hy).2⟩
          · obtain rfl : y = (.slice (some ⟨bh, 0, none⟩) 1 1, [(firstMsg x, none)]) := by simpa using hy
            refine ⟨HH.out.only BK.out (fun a m c e => by cases e; simp only; omega) on, fun a m c e => by cases e; simp only; omega⟩
      have HF := Lib.hid F
      clear F bx on R4 BK BB HPP HH
      go_wp2
      go_roundw
      case rel => exact ⟨k + 1, by omega, by simp, HF.out⟩
      case measure => (simp [intOf]; omega)
    · have he : k = n := by omega
      subst he
      go_wp2_with (first | (at_make; refine wpList_make_full _ rfl _ _ 29 rfl 0 60 tj _ 1 Try.underlying29 htj hy0 hy1 _ _ _ _ t rfl rfl (by omega) (by omega) (by rw [hy2]; omega) (by unfold maxLen; omega) (Nat.zero_le _) ?_))
      intro w3 hown hg
      have hkk := own_block hown
      rw [toList_madeCells_one] at hkk
      have hb := (Below.refl _ _).grown hg (Nat.le_refl _) (fun j hj => by cases hj)
      have l4 := R4.out.lt
      have R5 := Lib.hid (R4.out.below hb)
      have BK5 := Lib.hid (BK.out.below hb)
      have BB5 := Lib.hid (BB.out.trans (hb.mono BB.out.size))
      have HP5 := Lib.hid (fun y hy => (⟨(HPP.out y hy).1.below hb, (HPP.out y hy).2⟩ : HW w3 y.1 y.2 ∧ ∀ a m c, y.1 = .slice (some a) m c → a.block ≠ bP ∧ a.block ≠ b4 ∧ w.heap.size ≤ a.block))
      have VK := Lib.hid (show Box w3 wr.heap.size (List.replicate t (.map none)).toArray 60 from hkk)
      clear hown hg hkk hb R4 BK BB HPP
      generalize wr.heap = hp at *
      generalize hp.size = bV at *
      obtain ⟨⟨m0, m1⟩, g0, g1⟩ := R5.out.cells2
      have on := ((Only.refl b4 w3).set 0 (.slice (some ⟨bP, 0, none⟩) k k)).set 1 (.slice (some ⟨bV, 0, none⟩) t t)
      obtain ⟨⟨q0, q1⟩, -⟩ := ((R5.out.set 0 (.slice (some ⟨bP, 0, none⟩) k k)).set 1 (.slice (some ⟨bV, 0, none⟩) t t)).cells2
      have FP := BK5.out.only (by omega) on
      have FV := VK.out.only (by omega) on
      have FH := fun y hy => (HP5.out y hy).1.only R5.out (fun a m c e => ((HP5.out y hy).2 a m c e).2.1) on
      have FB := (BB5.out.put b4 (by omega) 0 (.slice (some ⟨bP, 0, none⟩) k k)).put b4 (by omega) 1 (.slice (some ⟨bV, 0, none⟩) t t)
      have HD5 : Hid (∀ y ∈ P, ∀ a m c, y.1 = .slice (some a) m c → w.heap.size ≤ a.block) := Lib.hid (fun y hy a m c e => ((HP5.out y hy).2 a m c e).2.2)
      have lVV := BB5.out.size
      have HFP := Lib.hid FP
      have HFV := Lib.hid FV
      have HFH := Lib.hid FH
      have HFB := Lib.hid FB
      clear FP FV FH FB R5 BK5 BB5 HP5 VK on
      go_wp2
      refine bodyPost_ret (v := .tuple #[.agg #[.slice (some ⟨bP, 0, none⟩) k k, .slice (some ⟨bV, 0, none⟩) t t], .int .i64 0]) (by simp [results, Try.f11, go_sem, q0, q1]) rfl ?_
      refine ⟨_, _, rfl, ⟨P, List.replicate t (none, []), .inr ⟨bP, 65, by simp [hPl], by have := HFP.out; simp only [Nat.sub_self, List.replicate_zero, List.append_nil] at this; exact this⟩, HFH.out, ?_, .inr ⟨bV, 60, by simp, by have := HFV.out; rw [List.map_replicate]; exact this⟩, fun y hy => ?_, by simp [newMem], fun a n c e => by cases e; simp only; omega, fun a n c e => by cases e; simp only; omega, fun y hy a m c e => (HD5.out y hy a m c e)⟩, HFB.out⟩
      · rw [HPM.out, List.take_of_length_le (by rw [HN.out]; exact Nat.le_refl _)]; rfl
      · obtain ⟨_, rfl⟩ := List.mem_replicate.1 hy
        exact VW.nil _
end Go.Proofs.Ytbaljoehgdhhhaa
