/- Reach of package leak. -/
import Derived.Test.YtgejijlhgimgaaaLkExt
namespace Go.Proofs.Ytgejijlhgimgaaa
open Go.ChangeShapes Go.WideShapes Go.ChangeAt Go.RowKit Go.Maps
theorem Row.pop {B : Nat} {w : World} {h m cw : Nat} {L : List Int} {x : Int} (hr : Row B w (.slice (some ⟨h, 0, none⟩) (m + 1) cw) (L ++ [x])) (hm : L.length = m) : Row B w (.slice (some ⟨h, 0, none⟩) m cw) L ∧ w.cell? ⟨h, m, none⟩ = some (.int .i64 x) := by
  have e : m + 1 = (L ++ [x]).length := by simp [hm]
  rw [e] at hr
  have h0 : w.ownsRow B 3 1 (.slice (some ⟨h, 0, none⟩) (L ++ [x]).length cw) (L ++ [x]).length (flat (L ++ [x])) := hr
  obtain ⟨h1, ⟨h2, _⟩ | ⟨g, cap, cur, hv, hB, hh, hc, hm2, hs, ht⟩⟩ := hr
  · cases h2
  · injection hv with e1 e2 e3
    injection e1 with e1
    injection e1 with e1
    subst e1 e3
    refine ⟨?_, ?_⟩
    · refine ⟨by rw [flat_len, Nat.mul_one], .inr ⟨h, cw, cur, by rw [hm], hB, hh, by omega, hm2, hs, ?_⟩⟩
      have := congrArg (List.take L.length) ht
      rw [List.take_take, show min L.length ((L ++ [x]).length * 1) = L.length * 1 by simp, flat_append, List.take_append_of_le_length (by rw [flat_len]; exact Nat.le_refl _), List.take_of_length_le (l := flat L) (by rw [flat_len]; exact Nat.le_refl _)] at this
      exact this
    · have := World.ownsRow.cellAt h0 m (by simp; omega)
      rw [this, flat_append, List.getElem?_append_right (by rw [flat_len]; omega), flat_len]
      simp [flat, hm]
theorem own_box {w : World} {B g n size : Nat} {e : TypeId} {xs : List Value} (h : w.ownsRow B e size (.slice (some ⟨g, 0, none⟩) n n) n xs) : Box w g xs.toArray e := by
  obtain ⟨h1, ⟨h2, _⟩ | ⟨g', cap, cur, hv, _, hh, _, _, hs, ht⟩⟩ := h
  · cases h2
  · cases hv
    unfold Box
    rw [hh]
    congr 2
    rw [List.take_of_length_le (by simp [hs])] at ht
    rw [← ht]
set_option maxRecDepth 100000 in
set_option maxHeartbeats 3200000 in
theorem reach_any (v u : Value) (roots : List Int) (N : List (List Int)) (w : World) (hl : roots.length ≤ 1000) (hN : N.length ≤ 1000) (hv : IS w v roots) (hu : NS w u N) (hb8 : ∀ i, (N.getD i []).length ≤ 1000) :
    Calls Try.prog 10 #[v, u] w (Set w (Rch roots N) N.length) := by
  have HR := Lib.hid hv
  have HU := Lib.hid hu
  have HLB := Lib.hid hb8
  clear hb8
  obtain ⟨a, cap, rfl, hcap, h⟩ := hv
  obtain ⟨a2, cap2, rfl, h2⟩ := hu
  clear h h2 hcap
  obtain ⟨n, hn⟩ : ∃ n, N.length = n := ⟨_, rfl⟩
  rw [hn] at HU hN ⊢
  have HN := Lib.hid hn
  clear hn
  obtain ⟨i0, hi, hz0, hz1, hz2⟩ := info_parts infoB
  go_enter Try.func10, Try.ntmps10
  go_upto_region 2 with (first | (at_make; refine wpList_make_full _ rfl _ _ 32 rfl w.heap.size 4 i0 _ 1 Try.underlying32 hi hz0 hz1 _ _ _ _ n rfl rfl rfl rfl (by rw [hz2]; omega) (by unfold maxLen; omega) (by simp) ?_; intro w1 hown hg; have H1 := Lib.hid (own_box hown); have G1 := Lib.hid hg; have hgs := hg.size; clear hown hg) | fail)
  go_upto_region 3 with fail
  obtain ⟨W, hW⟩ : ∃ W, (w1.alloc (.cells #[.slice (some ⟨w.heap.size + 1, 0, none⟩) n n] 32)).alloc (.cells #[.slice none 0 0] 22) = W := ⟨_, rfl⟩
  obtain ⟨bn, hbn⟩ : ∃ b, w.heap.size = b := ⟨_, rfl⟩
  obtain ⟨br, hbr⟩ : ∃ b, w1.heap.size = b := ⟨_, rfl⟩
  obtain ⟨g, hg⟩ : ∃ b, bn + 1 = b := ⟨_, rfl⟩
  obtain ⟨bw, hbw⟩ : ∃ b, br + 1 = b := ⟨_, rfl⟩
  have X : Hid (EX w W bn br bw g (.slice a2 n cap2) n (List.replicate n false) (.slice none 0 0) []) := by
    have e1 : Box w1 g (bools (List.replicate n false)) 4 := by
      have h := H1.out
      rw [show (w.alloc (.cells #[.slice a2 n cap2] 23)).heap.size = g by simp; omega] at h
      have e2 : (madeCells (Value.bool false).cells (n * 1)).toList.toArray = bools (List.replicate n false) := by
        rw [show (Value.bool false).cells = #[Value.bool false] from rfl, toList_madeCells_one, Nat.mul_one]
        unfold bools; rw [List.map_replicate]
      rwa [e2] at h
    have e0 : Box w1 bn #[.slice a2 n cap2] 23 := (Box.new w #[.slice a2 n cap2] 23 hbn.symm).grown G1.out (by simp)
    have b1 : Below w.heap.size w w1 := (below1 w (.cells #[.slice a2 n cap2] 23)).grown G1.out (by simp) (fun k hk => by cases hk)
    have hs := b1.size
    refine Lib.hid ?_
    rw [← hW]
    refine ⟨(e0.alloc _).alloc _, ?_, (e1.alloc _).alloc _, Box.new _ _ _ (by simp; omega), Row.nil _ _, (b1.alloc hs _).alloc (by simp; omega) _, by omega, by omega⟩
    rw [hbn, hg]
    exact (Box.new w1 _ 32 hbr.symm).alloc _
  rw [hbn] at hW
  rw [hbn, hbr, hg, hbw]
  rw [hg] at hW
  rw [hW]
  have HW := Lib.hid hW
  have HB := Lib.hid hbn
  have HBR := Lib.hid hbr
  have HG := Lib.hid hg
  have HBW := Lib.hid hbw
  clear hW hbn hbr hg hbw H1 G1 hgs hi hz0 hz1 hz2
  have E0 := Lib.hid (extL_len n roots (List.replicate n false, []))
  have RS := Lib.hid (Run.start roots N)
  rw [HN.out] at RS
  go_wp2_with fail
  refine (ext_any w W bn br bw g a2 n cap2 (List.replicate n false, []) _ _ roots HR.out X.out (by simp) hl (by simp)).mono ?_
  rintro e w2 ⟨wv, rfl, hx⟩
  have X2 := Lib.hid hx
  clear hx X
  go_wp2_with fail
  go_loopg [8] (2 * n) (fun k lv wr => ∃ M W' wv', 2 * un M + W'.length ≤ k ∧ Run roots N (M, W') ∧ EX w wr bn br bw g (.slice a2 n cap2) n M wv' W')
  case atStart =>
    refine ⟨_, _, _, ?_, RS.out, X2.out⟩
    have := RS.out.wl.room
    rw [HN.out] at this
    show 2 * un (extL n (List.replicate n false, []) roots).1 + (extL n (List.replicate n false, []) roots).2.length ≤ 2 * n
    omega
  case round =>
    obtain ⟨M, W', wv', hk, hrun, hx⟩ := hrel
    have X3 := Lib.hid hx
    have RN := Lib.hid hrun
    have hroom := hrun.wl.room
    rw [HN.out] at hroom
    have hW : W'.length ≤ 1000 := by simp only at hroom; omega
    clear hx hrun X2 RS E0 hroom
    rcases List.eq_nil_or_concat W' with rfl | ⟨W2, x, hW2⟩
    · obtain ⟨aw, cw, rfl, hcw⟩ := X3.out.row.form
      clear hcw
      obtain ⟨m1, m2⟩ := X3.out.xw.one
      obtain ⟨r1, r2⟩ := X3.out.xr.one
      go_wp2_with fail
      refine (indices_any g n M wr (by rw [RN.out.wl.len]; exact HN.out) hN X3.out.xg).mono ?_
      rintro e w3 ⟨z, S, rfl, hrow, hinc, hmem, hlen, hb⟩
      obtain ⟨az, cz, rfl, hcz⟩ := hrow.form
      have RR := Lib.hid hrow
      have HI := Lib.hid hinc
      have HM := Lib.hid hmem
      have HB2 := Lib.hid hb
      clear hrow hinc hmem hb hcz
      go_wp2_with fail
      go_ret
      have hbs := X3.out.bel.size
      refine ⟨_, S, rfl, RR.out.mono hbs, HI.out, fun y => ?_, hlen, X3.out.bel.trans (HB2.out.mono hbs)⟩
      rw [HM.out y]
      constructor
      · rintro ⟨h1, h2, h3⟩
        have := (RN.out.done y.toNat (by rw [HN.out]; omega)).1 h3
        rwa [show ((y.toNat : Nat) : Int) = y by omega] at this
      · intro h
        have hr := h.range
        rw [HN.out] at hr
        refine ⟨hr.1, hr.2, (RN.out.done y.toNat (by rw [HN.out]; omega)).2 ?_⟩
        rwa [show ((y.toNat : Nat) : Int) = y by omega]
    · rw [List.concat_eq_append] at hW2
      subst hW2
      have RX := Lib.hid RN.out.next
      obtain ⟨m, hm⟩ : ∃ m, W2.length = m := ⟨_, rfl⟩
      rw [List.length_append, List.length_singleton, hm] at hk hW
      obtain ⟨h, cw, rfl⟩ : ∃ h cw, wv' = .slice (some ⟨h, 0, none⟩) (m + 1) cw := by
        obtain ⟨h, cw, e, h1, h2⟩ := World.ownsRow.form (show wr.ownsRow w.heap.size 3 1 wv' _ _ from X3.out.row) (by simp)
        exact ⟨h, cw, by rw [e, List.length_append, hm]; rfl⟩
      have hcw : m + 1 ≤ cw := by
        obtain ⟨a', c', e, hc, _⟩ := X3.out.row.is
        injection e with e1 e2 e3
        rw [e3, e2]; exact hc
      have HMM := Lib.hid hm
      clear hm
      obtain ⟨rp, c0⟩ := X3.out.row.pop HMM.out
      have RP := Lib.hid rp
      clear rp
      obtain ⟨m1, m2⟩ := X3.out.xw.one
      have hx0 := RX.out.2.1
      rw [HN.out] at hx0
      obtain ⟨y, rfl⟩ := Int.eq_ofNat_of_zero_le hx0.1
      have hyn : y < n := by omega
      clear hx0
      rcases HU.out with ⟨a', cap', e, h2⟩
      injection e with e1 e2 e3
      subst e1 e3
      clear e2
      rcases h2 with h2 | ⟨b, off, e, hbl, hc⟩
      · rw [h2] at HN; have := HN.out; simp at this; omega
      subst e
      obtain ⟨u, hu1, hu2⟩ := hc y (by rw [HN.out]; exact hyn)
      have HU2 := Lib.hid hu2
      obtain ⟨au, cu, e, _⟩ := hu2
      obtain ⟨lu, hlu⟩ : ∃ l, (N.getD y []).length = l := ⟨_, rfl⟩
      rw [hlu] at e
      subst e
      have HLU := Lib.hid hlu
      clear hlu hc
      go_upto_region 9 with fail
      obtain ⟨w4, hw4⟩ : ∃ w4, wr.setCell ⟨bw, 0, none⟩ (.slice (some ⟨h, 0, none⟩) m cw) = w4 := ⟨_, rfl⟩
      have X5 : Hid (EX w w4 bn br bw g (.slice (some ⟨b, off, none⟩) n cap2) n M (.slice (some ⟨h, 0, none⟩) m cw) W2) := Lib.hid (by rw [← hw4]; exact X3.out.put RP.out)
      rw [hw4]
      clear hw4 m1 m2 c0
      obtain ⟨n1, n2⟩ := X5.out.xn.one
      rw [← X5.out.bel.cell (p := ⟨b, off + y, none⟩) hbl] at hu1
      have hlu : lu ≤ 1000 := by have := HLB.out y; rw [HLU.out] at this; exact this
      go_wp2_with fail
      refine (ext_any w w4 bn br bw g _ n cap2 (M, W2) _ _ (N.getD y []) HU2.out X5.out (by have := RN.out.wl.len; rw [HN.out] at this; exact this) (by rw [HLU.out]; exact hlu) (by simp only; rw [HMM.out]; omega)).mono ?_
      rintro e w5 ⟨wv5, rfl, hx⟩
      have X6 := Lib.hid hx
      clear hx
      go_wp2_with fail
      have hrx := RX.out
      rw [HN.out, Int.toNat_natCast, List.length_append, List.length_singleton, HMM.out] at hrx
      obtain ⟨q1, _, q3⟩ := hrx
      have HQ1 := Lib.hid q1
      have hkk : Hid (2 * un (extL n (M, W2) (N.getD y [])).1 + (extL n (M, W2) (N.getD y [])).2.length < gk) := Lib.hid (by omega)
      clear q1 q3
      go_roundg (2 * un (extL n (M, W2) (N.getD y [])).1 + (extL n (M, W2) (N.getD y [])).2.length)
      case measure => exact hkk.out
      case rel => exact ⟨_, _, _, Nat.le_refl _, HQ1.out, X6.out⟩
end Go.Proofs.Ytgejijlhgimgaaa
