/- The closure of Reach: nodes are handed to the worklist. -/
import Derived.Test.YtgejijlhgimgaaaLkWithout
namespace Go.Proofs.Ytgejijlhgimgaaa
open Go.ChangeShapes Go.WideShapes Go.ChangeAt Go.RowKit Go.Maps

/-- The slice v reads as the lists N. -/
def NS (w : World) (v : Value) (N : List (List Int)) : Prop :=
  ∃ a cap, v = .slice a N.length cap ∧ (N = [] ∨ ∃ b off, a = some ⟨b, off, none⟩ ∧ b < w.heap.size ∧ ∀ i, i < N.length → ∃ u, w.cell? ⟨b, off + i, none⟩ = some u ∧ IS w u (N.getD i []))
theorem NS.below {w w1 : World} {v : Value} {N : List (List Int)} (h : NS w v N) (hb : Below w.heap.size w w1) : NS w1 v N := by
  obtain ⟨a, cap, hv, h | ⟨b, off, ha, hl, hc⟩⟩ := h
  · exact ⟨a, cap, hv, .inl h⟩
  · refine ⟨a, cap, hv, .inr ⟨b, off, ha, Nat.lt_of_lt_of_le hl hb.size, fun i hi => ?_⟩⟩
    obtain ⟨u, h1, h2⟩ := hc i hi
    exact ⟨u, (hb.cell hl).trans h1, h2.below hb⟩
def bools (M : List Bool) : Array Value := (M.map Value.bool).toArray
theorem bools_set (M : List Bool) (i : Nat) : (bools M).setIfInBounds i (.bool true) = bools (M.set i true) := by
  unfold bools
  apply Array.ext'
  simp [List.map_set]
theorem bools_at (M : List Bool) (i : Nat) (h : i < M.length) : (bools M)[i]? = some (.bool (M.getD i false)) := by
  unfold bools
  simp [List.getD, h]
/-- The boxes of Reach: the graph (bn), the marks (br, and g, their block), the worklist (bw). -/
structure EX (w0 w : World) (bn br bw g : Nat) (nv : Value) (N : Nat) (M : List Bool) (wv : Value) (W : List Int) : Prop where
  xn : Box w bn #[nv] 23
  xr : Box w br #[.slice (some ⟨g, 0, none⟩) N N] 32
  xg : Box w g (bools M) 4
  xw : Box w bw #[wv] 22
  row : Row w0.heap.size w wv W
  bel : Below w0.heap.size w0 w
  lg : w0.heap.size ≤ g
  lw : w0.heap.size ≤ bw
section
variable {w0 w w1 w2 : World} {bn br bw g N : Nat} {nv wv v2 : Value} {M : List Bool} {W W2 : List Int}
theorem EX.below (h : EX w0 w bn br bw g nv N M wv W) (hb : Below w.heap.size w w1) : EX w0 w1 bn br bw g nv N M wv W :=
  ⟨h.xn.below hb, h.xr.below hb, h.xg.below hb, h.xw.below hb, h.row.below hb, h.bel.trans (hb.mono h.bel.size), h.lg, h.lw⟩
theorem EX.mark (h : EX w0 w bn br bw g nv N M wv W) (i : Nat) : EX w0 (w.setCell ⟨g, i, none⟩ (.bool true)) bn br bw g nv N (M.set i true) wv W :=
  ⟨h.xn.other (h.xn.ne h.xg (by decide)) _ _, h.xr.other (h.xr.ne h.xg (by decide)) _ _, by rw [← bools_set]; exact h.xg.set i _, h.xw.other (h.xw.ne h.xg (by decide)) _ _, h.row.other h.xg (by decide) _ _, h.bel.setCell h.lg _, h.lg, h.lw⟩
theorem EX.work (h : EX w0 w bn br bw g nv N M wv W) (hg : w.grownBy w2 wv.ownBlock) : w2.cell? ⟨bw, 0, none⟩ = some wv ∧ w2.frozen? ⟨bw, 0, none⟩ = false :=
  (h.xw.grown hg (box_not_row h.row h.xw (by decide))).one
theorem EX.put (h : EX w0 w bn br bw g nv N M wv W) (hr : Row w0.heap.size w v2 W2) : EX w0 (w.setCell ⟨bw, 0, none⟩ v2) bn br bw g nv N M v2 W2 :=
  ⟨h.xn.other (h.xn.ne h.xw (by decide)) _ _, h.xr.other (h.xr.ne h.xw (by decide)) _ _, h.xg.other (h.xg.ne h.xw (by decide)) _ _, h.xw.set 0 v2, hr.other h.xw (by decide) _ _, h.bel.setCell h.lw _, h.lg, h.lw⟩
theorem EX.push (h : EX w0 w bn br bw g nv N M wv W) (hg : w.grownBy w2 wv.ownBlock) (hb : Below w0.heap.size w0 w2) (hr : Row w0.heap.size w2 v2 W2) : EX w0 (w2.setCell ⟨bw, 0, none⟩ v2) bn br bw g nv N M v2 W2 := by
  have n1 := h.xn.grown hg (box_not_row h.row h.xn (by decide))
  have n2 := h.xr.grown hg (box_not_row h.row h.xr (by decide))
  have n3 := h.xg.grown hg (box_not_row h.row h.xg (by decide))
  have n4 := h.xw.grown hg (box_not_row h.row h.xw (by decide))
  exact ⟨n1.other (n1.ne n4 (by decide)) _ _, n2.other (n2.ne n4 (by decide)) _ _, n3.other (n3.ne n4 (by decide)) _ _, n4.set 0 v2, hr.other n4 (by decide) _ _, hb.setCell h.lw _, h.lg, h.lw⟩
end
/-- What the closure leaves. -/
def Ext (w0 : World) (bn br bw g : Nat) (nv : Value) (N : Nat) (s : List Bool × List Int) (e : Ending) (w' : World) : Prop :=
  ∃ wv', e = .returned (.tuple #[]) ∧ EX w0 w' bn br bw g nv N s.1 wv' s.2
theorem ext1_len (N : Nat) (s : List Bool × List Int) (x : Int) : (ext1 N s x).1.length = s.1.length := by
  unfold ext1; split <;> simp
theorem ext1_len2 (N : Nat) (s : List Bool × List Int) (x : Int) : (ext1 N s x).2.length ≤ s.2.length + 1 := by
  unfold ext1; split <;> simp
theorem extL_len (N : Nat) (l : List Int) : ∀ s : List Bool × List Int, (extL N s l).1.length = s.1.length ∧ (extL N s l).2.length ≤ s.2.length + l.length := by
  induction l with
  | nil => exact fun s => ⟨rfl, Nat.le_refl _⟩
  | cons a r ih =>
    intro s
    obtain ⟨h1, h2⟩ := ih (ext1 N s a)
    have e : extL N s (a :: r) = extL N (ext1 N s a) r := rfl
    rw [e]
    have := ext1_len N s a
    have := ext1_len2 N s a
    exact ⟨by omega, by simp only [List.length_cons]; omega⟩
set_option maxRecDepth 100000 in
set_option maxHeartbeats 3200000 in
theorem ext_any (w0 w : World) (bn br bw g : Nat) (ad : Option Addr) (N cp : Nat) (s : List Bool × List Int) (wv : Value) (v : Value) (L : List Int) (hi : IS w0 v L) (hx : EX w0 w bn br bw g (.slice ad N cp) N s.1 wv s.2) (hm : s.1.length = N) (hL : L.length ≤ 1000)  (hW : s.2.length ≤ 1000) :
    Calls Try.prog 17 #[v, .pointer (some ⟨bn, 0, none⟩), .pointer (some ⟨br, 0, none⟩), .pointer (some ⟨bw, 0, none⟩)] w (Ext w0 bn br bw g (.slice ad N cp) N (extL N s L)) := by
  obtain ⟨a, cap, rfl, hcap, h⟩ := hi
  have H := Lib.hid h
  have X := Lib.hid hx
  have HE := Lib.hid (fun k => extL_len N (L.take k) s)
  have HM := Lib.hid hm
  clear h hcap hx hm
  obtain ⟨n, hn⟩ : ∃ n, L.length = n := ⟨_, rfl⟩
  rw [hn] at hL ⊢
  have HN := Lib.hid hn
  clear hn
  go_enter Try.func17, Try.ntmps17
  go_wp2_with fail
  go_loopw [9] (fun iv wr => ∃ k : Nat, ∃ wv', k ≤ n ∧ iv = .int .i64 k ∧ EX w0 wr bn br bw g (.slice ad N cp) N (extL N s (L.take k)).1 wv' (extL N s (L.take k)).2) (fun iv _ => n - (intOf iv).toNat)
  case atStart => exact ⟨0, wv, by omega, rfl, X.out⟩
  case round =>
    obtain ⟨k, wv', hk, rfl, hx⟩ := hrel
    have X2 := Lib.hid hx
    obtain ⟨l1, l2⟩ := HE.out k
    rw [List.length_take] at l2
    have HL1 := Lib.hid l1
    have l3 : (extL N s (L.take k)).2.length ≤ 2000 := by omega
    clear hx X l1 l2
    by_cases hlt : k < n
    · rcases H.out with h | ⟨b, off, rfl, hbl, hc⟩
      · rw [h] at HN; have := HN.out; simp at this; omega
      have c0 := hc k (by rw [HN.out]; exact hlt)
      have HT := Lib.hid (show extL N s (L.take (k + 1)) = ext1 N (extL N s (L.take k)) (L.getD k 0) from by rw [take_succ_getDI L (by rw [HN.out]; exact hlt), extL_snoc])
      rw [← X2.out.bel.cell hbl] at c0
      clear hc
      obtain ⟨x, hx⟩ : ∃ y, L.getD k 0 = y := ⟨_, rfl⟩
      rw [hx] at c0 HT
      clear hx
      obtain ⟨M, hM⟩ : ∃ M, (extL N s (L.take k)).1 = M := ⟨_, rfl⟩
      obtain ⟨W, hW2⟩ : ∃ M, (extL N s (L.take k)).2 = M := ⟨_, rfl⟩
      have HP := Lib.hid (show extL N s (L.take k) = (M, W) from by rw [← hM, ← hW2])
      rw [hM] at X2 HL1
      rw [hW2] at X2 l3
      clear hM hW2
      rw [HP.out] at HT
      obtain ⟨n1, n2⟩ := X2.out.xn.one
      obtain ⟨r1, r2⟩ := X2.out.xr.one
      by_cases hx0 : 0 ≤ x
      · by_cases hxN : x < N
        · obtain ⟨i, rfl⟩ := Int.eq_ofNat_of_zero_le hx0
          have hiN : i < N := by omega
          have hml : i < M.length := by rw [HL1.out, HM.out]; exact hiN
          have g1 : wr.cell? ⟨g, i, none⟩ = some (.bool (M.getD i false)) := (X2.out.xg.cell i).trans (bools_at M i hml)
          have g2 : wr.frozen? ⟨g, i, none⟩ = false := X2.out.xg.free i
          cases hm : M.getD i false with
          | true =>
            rw [hm] at g1
            have HU := Lib.hid (show ext1 N (M, W) (i : Int) = (M, W) from by unfold ext1; rw [if_neg]; rintro ⟨_, _, h⟩; simp only [Int.toNat_natCast] at h; rw [hm] at h; cases h)
            clear hm hml
            go_wp2_with fail
            go_roundw
            case rel => exact ⟨k + 1, wv', by omega, by go_num, by rw [HT.out, HU.out]; exact X2.out⟩
            case measure => simp [intOf]; omega
          | false =>
            rw [hm] at g1
            have HU := Lib.hid (show ext1 N (M, W) (i : Int) = (M.set i true, W ++ [(i : Int)]) from by unfold ext1; rw [if_pos ⟨by omega, by omega, by simp only [Int.toNat_natCast]; exact hm⟩]; simp)
            clear hm hml
            go_upto_region 5 with fail
            obtain ⟨w1, hw1⟩ : ∃ w1, wr.setCell ⟨g, i, none⟩ (.bool true) = w1 := ⟨_, rfl⟩
            have X3 : Hid (EX w0 w1 bn br bw g (.slice ad N cp) N (M.set i true) wv' W) := Lib.hid (by rw [← hw1]; exact X2.out.mark i)
            rw [hw1]
            clear hw1 n1 n2 r1 r2 g1 g2 c0 X2
            obtain ⟨m1, m2⟩ := X3.out.xw.one
            have hsz := X3.out.bel.size
            have X4 := Lib.hid (X3.out.below (below1 w1 (.cells #[.int .i64 (i : Int)] 3)))
            have S2 := Lib.hid (IS.ofBox (Box.new w1 #[.int .i64 (i : Int)] 3 rfl) (L := [(i : Int)]) (n := 1) (cap := 1) rfl rfl (Nat.le_refl _))
            go_wp2_with (first | (at_builtin; refine wpList_app' _ rfl (.tmp 31) (.tmp 33) rfl rfl X4.out.bel X4.out.row rfl S2.out (by simp; omega) ?_; intro v2 w2 r2 b2 g2; obtain ⟨a2, c2, rfl⟩ : ∃ a c, v2 = .slice a (W.length + 1) c := (by obtain ⟨a, c, h, _⟩ := r2.form; exact ⟨a, c, by rw [h]; simp⟩); have R3 := Lib.hid r2; have B5 := Lib.hid b2; have G5 := Lib.hid g2; obtain ⟨f1, f2⟩ := X4.out.work g2; clear r2 b2 g2) | fail)
            go_roundw
            case rel => exact ⟨k + 1, _, by omega, by go_num, by rw [HT.out, HU.out]; exact X4.out.push G5.out B5.out R3.out⟩
            case measure => simp [intOf]; omega
        · have HU := Lib.hid (show ext1 N (M, W) x = (M, W) from by unfold ext1; rw [if_neg]; rintro ⟨_, h, _⟩; omega)
          go_wp2_with fail
          go_roundw
          case rel => exact ⟨k + 1, wv', by omega, by go_num, by rw [HT.out, HU.out]; exact X2.out⟩
          case measure => simp [intOf]; omega
      · have HU := Lib.hid (show ext1 N (M, W) x = (M, W) from by unfold ext1; rw [if_neg]; rintro ⟨h, _, _⟩; omega)
        go_wp2_with fail
        go_roundw
        case rel => exact ⟨k + 1, wv', by omega, by go_num, by rw [HT.out, HU.out]; exact X2.out⟩
        case measure => simp [intOf]; omega
    · obtain rfl : k = n := by omega
      have HT : Hid (L.take k = L) := Lib.hid (List.take_of_length_le (by rw [HN.out]; exact Nat.le_refl _))
      rw [HT.out] at X2
      go_wp2_with fail
      exact bodyPost_end (by simp [results, Try.f17, go_sem]) rfl ⟨_, rfl, X2.out⟩
end Go.Proofs.Ytgejijlhgimgaaa
