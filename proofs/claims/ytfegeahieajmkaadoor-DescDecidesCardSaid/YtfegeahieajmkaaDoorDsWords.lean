/- desc.Words. -/
import Derived.Test.YtfegeahieajmkaaDoorDsCheck
import Derived.Test.YtfegeahieajmkaaDoorDsEqual
import Derived.Deep.DeepCutAuto
namespace Go.Proofs.YtfegeahieajmkaaDoor
open Go.ChangeShapes Go.WideShapes Go.ChangeAt Go.RowKit Go.Maps
open Lay (startL checkI placeI mayI sizeI Ok starts checkI_ok)
theorem infoWd : (Tryd.prog.info? 47).map (fun i => (i.zero, i.size, i.bytes)) = some (some (.agg #[.int .i64 0, .int .u32 0, .int .u32 0]), 3, 16) := by kernel_rfl
theorem infoEn : (Tryd.prog.info? 49).map (fun i => (i.zero, i.size, i.bytes)) = some (some (.agg #[.int .i64 0, .int .i64 0, .int .u32 0, .int .u32 0, .int .i64 0, .bool false]), 6, 40) := by kernel_rfl
set_option maxRecDepth 100000 in
set_option maxHeartbeats 3200000 in
theorem words_no (T C B a b c : Int) (v : Value) (L : List En) (w : World) (hg : Lay.Gl w) (hv : ES w v L) (hl : L.length ≤ 1000) (ha : a < 9223372036854775808) (hd : chkD T C B (a, b, c, L) ≠ 0) : Calls Tryd.prog 13 #[.agg #[.int .i64 T, .int .i64 C, .int .i64 B], dV a b c v] w fun e w' => e = .returned (.tuple #[.slice none 0 0, .int .i64 (chkD T C B (a, b, c, L))]) ∧ Below w.heap.size w w' := by
  have HG := Lib.hid hg
  have CK := Lib.hid (fun W h hb => dcheck_any T C B a b c v L W h (hv.below hb) hl ha)
  have hne : (chkD T C B (a, b, c, L) != 0) = true := by rw [bne_iff_ne]; exact hd
  clear hd hv hg
  generalize chkD T C B (a, b, c, L) = r at *
  go_enter Tryd.func13, Tryd.ntmps13
  go_upto_region 1 with fail
  have LD := Lib.hid (LDs.made T C B a b c v w HG.out (q := w.heap.size) rfl)
  obtain ⟨W, hW⟩ : ∃ W, ((w.alloc (.cells #[.int .i64 T, .int .i64 C, .int .i64 B] 29)).alloc (.cells #[.int .i64 a, .int .i64 b, .int .i64 c, v] 25)) = W := ⟨_, rfl⟩
  obtain ⟨q, hq⟩ : ∃ q, w.heap.size = q := ⟨_, rfl⟩
  rw [hW, hq] at LD
  rw [hW, hq]
  clear hW hq
  obtain ⟨⟨x0, x1, x2⟩, y0, y1, y2, y3⟩ := LD.out.cs
  go_wp2_with fail
  refine (CK.out _ LD.out.g LD.out.bl).mono ?_
  rintro e w9 ⟨rfl, hb⟩
  replace LD := Lib.hid (LD.out.below hb)
  clear hb
  clear x0 x1 x2 y0 y1 y2 y3
  go_wp2_with fail
  go_ret2
  exact ⟨rfl, LD.out.bl⟩
set_option maxRecDepth 100000 in
set_option maxHeartbeats 6400000 in
theorem words_ok (T C B a b c : Int) (v : Value) (L : List En) (w : World) (hg : Lay.Gl w) (hv : ES w v L) (hl : L.length ≤ 1000) (ha : a < 9223372036854775808) (hd : chkD T C B (a, b, c, L) = 0) : Calls Tryd.prog 13 #[.agg #[.int .i64 T, .int .i64 C, .int .i64 B], dV a b c v] w fun e w' => ∃ u, e = .returned (.tuple #[u, .int .i64 0]) ∧ RowK wdE 47 w.heap.size w' u (wordsD (a, b, c, L)) ∧ Below w.heap.size w w' := by
  have HG := Lib.hid hg
  have HV := Lib.hid hv
  have CK := Lib.hid (fun W h hb => dcheck_any T C B a b c v L W h (hv.below hb) hl ha)
  rw [hd] at CK
  obtain ⟨a1, cp, rfl, hcap⟩ := hv.form
  obtain ⟨n, hn⟩ : ∃ n, L.length = n := ⟨_, rfl⟩
  rw [hn] at HV hl hcap CK ⊢
  have HN := Lib.hid hn
  clear hd hv hg hn
  go_enter Tryd.func13, Tryd.ntmps13
  go_upto_region 1 with fail
  have LD := Lib.hid (LDs.made T C B a b c (.slice a1 n cp) w HG.out (q := w.heap.size) rfl)
  obtain ⟨W, hW⟩ : ∃ W, ((w.alloc (.cells #[.int .i64 T, .int .i64 C, .int .i64 B] 29)).alloc (.cells #[.int .i64 a, .int .i64 b, .int .i64 c, .slice a1 n cp] 25)) = W := ⟨_, rfl⟩
  obtain ⟨q, hq⟩ : ∃ q, w.heap.size = q := ⟨_, rfl⟩
  have HQ := Lib.hid hq
  rw [hW, hq] at LD
  rw [hW, hq]
  clear hW hq
  obtain ⟨⟨x0, x1, x2⟩, y0, y1, y2, y3⟩ := LD.out.cs
  go_wp2_with fail
  refine (CK.out _ LD.out.g LD.out.bl).mono ?_
  rintro e w9 ⟨rfl, hb⟩
  replace LD := Lib.hid (LD.out.below hb)
  clear hb CK
  clear x0 x1 x2 y0 y1 y2 y3
  have ST := Lib.hid (fun W => status_any c b W)
  unfold wdV at ST
  simp only at ST
  obtain ⟨bv, hbv⟩ : ∃ x, IntKind.u32.wrap b = x := ⟨_, rfl⟩
  rw [hbv] at ST
  have HBV := Lib.hid hbv
  clear hbv
  go_upto_region 4 with fail
  have BD : Hid (Below w9.heap.size w9 w9.drew) := Lib.hid ((Below.refl _ _).drew)
  have FF : Hid (∀ W', Below w9.heap.size w9 W' → (W'.cell? ⟨q + 1, 0, none⟩ = some (.int .i64 a) ∧ W'.cell? ⟨q + 1, 1, none⟩ = some (.int .i64 b) ∧ W'.cell? ⟨q + 1, 2, none⟩ = some (.int .i64 c) ∧ W'.cell? ⟨q + 1, 3, none⟩ = some (.slice a1 n cp))) := Lib.hid (fun W' h => (LD.out.below h).cs.2)
  go_region_held3 (fun wz => (wz.cell? ⟨q + 1, 0, none⟩ = some (.int .i64 a) ∧ wz.cell? ⟨q + 1, 1, none⟩ = some (.int .i64 b) ∧ wz.cell? ⟨q + 1, 2, none⟩ = some (.int .i64 c) ∧ wz.cell? ⟨q + 1, 3, none⟩ = some (.slice a1 n cp))) (first | exact FF.out _ BD.out | exact FF.out _ (BD.out.alloc BD.out.size _))
    (first
      | (go_at_call 34; (with_reducible refine (ST.out _).mono ?_); rintro e w5 ⟨rfl, hb5⟩; replace BD := Lib.hid (BD.out.trans (hb5.mono BD.out.size)); clear hb5))
  have y3 := (FF.out _ (BD.out.alloc BD.out.size (.cells #[.int .i64 c, .int .u32 bv, .int .u32 0, .int .i64 n, .int .u32 0, .int .u32 0] 47))).2.2.2
  have R := Lib.hid (RowK.ofBox (E := wdE) (B := w.heap.size) (L := headL (a, b, c, L)) (n := 2) (Box.new w5 #[.int .i64 c, .int .u32 bv, .int .u32 0, .int .i64 n, .int .u32 0, .int .u32 0] 47 rfl) (Nat.le_trans LD.out.bl.size BD.out.size) rfl (by rw [← HN.out, ← HBV.out]; rfl) (by decide : 2 ≤ 100000))
  have BB : Hid (Below w.heap.size w (w5.alloc (.cells #[.int .i64 c, .int .u32 bv, .int .u32 0, .int .i64 n, .int .u32 0, .int .u32 0] 47))) := Lib.hid ((LD.out.bl.trans (BD.out.mono LD.out.bl.size)).alloc (Nat.le_trans LD.out.bl.size BD.out.size) _)
  generalize w5.alloc (.cells #[.int .i64 c, .int .u32 bv, .int .u32 0, .int .i64 n, .int .u32 0, .int .u32 0] 47) = W5 at *
  generalize w5.heap.size = g at *
  clear FF BD LD ST
  go_wp2_with fail
  clear y3
  go_loopw [7, 30] (fun sv iv wr => ∃ k : Nat, k ≤ n ∧ iv = .int .i64 k ∧ RowK wdE 47 w.heap.size wr sv (headL (a, b, c, L) ++ bodyL (L.take k)) ∧ Below w.heap.size w wr) (fun _ iv _ => n - (intOf iv).toNat)
  case atStart => exact ⟨0, by omega, rfl, R.out, BB.out⟩
  case round =>
    obtain ⟨k, hk, rfl, hr, hb⟩ := hrel
    replace BB := Lib.hid hb
    replace R := Lib.hid hr
    clear hb hr
    by_cases hlt : k < n
    · have TS := Lib.hid (bodyL_take L (k := k) (by rw [HN.out]; exact hlt))
      have RL : Hid ((headL (a, b, c, L) ++ bodyL (L.take k)).length = 2 + 3 * k) := Lib.hid (by rw [List.length_append, bodyL_len, List.length_take, HN.out, Nat.min_eq_left hk]; rfl)
      obtain ⟨b0, off, rfl, hbl, hln, hc⟩ := HV.out.addr hlt
      obtain ⟨c0, c1, c2, c3, c4, c5⟩ := en_cells hc (by rw [hln]; exact hlt)
      rw [← BB.out.cell (p := ⟨b0, _, none⟩) hbl] at c0 c1 c2 c3 c4 c5
      have PK := Lib.hid (pack_any L[k]!)
      unfold enV w3V at PK
      clear hc hln
      obtain ⟨U, hU⟩ : ∃ U, headL (a, b, c, L) ++ bodyL (L.take k) = U := ⟨_, rfl⟩
      rw [hU] at RL R
      have HU := Lib.hid hU
      clear hU
      obtain ⟨y, hy⟩ : ∃ y, L[k]! = y := ⟨_, rfl⟩
      rw [hy] at c0 c1 c2 c3 c4 c5 TS PK
      clear hy
      obtain ⟨p0, hp0⟩ : ∃ p, pw0 y = p := ⟨_, rfl⟩
      obtain ⟨p1, hp1⟩ : ∃ p, pw1 y = p := ⟨_, rfl⟩
      obtain ⟨p2, hp2⟩ : ∃ p, pw2 y = p := ⟨_, rfl⟩
      have PP : Hid (packL y = [p0, p1, p2]) := Lib.hid (by rw [← hp0, ← hp1, ← hp2]; rfl)
      rw [hp0, hp1, hp2] at PK
      clear hp0 hp1 hp2
      obtain ⟨e0, ⟨e1, e2, e3⟩, e4, e5⟩ := y
      obtain ⟨s0, s1, s2⟩ := p0
      obtain ⟨t0, t1, t2⟩ := p1
      obtain ⟨r0, r1, r2⟩ := p2
      simp only at c0 c1 c2 c3 c4 c5 PK
      obtain ⟨ra, rc, e6, _⟩ := R.out.form
      rw [RL.out] at e6
      subst e6
      go_wp2_with fail
      refine (PK.out _).mono ?_
      rintro e w4 ⟨rfl, hb⟩
      have BN := Lib.hid ((below1 wr (.cells #[.int .i64 e0, .int .i64 e1, .int .u32 e2, .int .u32 e3, .int .i64 e4, .bool e5] 49)).trans (hb.mono (by simp)))
      clear hb c0 c1 c2 c3 c4 c5
      have E3 := Lib.hid (SK.ofBox (E := wdE) (Box.new w4 #[.int .i64 s0, .int .u32 s1, .int .u32 s2, .int .i64 t0, .int .u32 t1, .int .u32 t2, .int .i64 r0, .int .u32 r1, .int .u32 r2] 66 rfl) (L := [(s0, s1, s2), (t0, t1, t2), (r0, r1, r2)]) (n := 3) (cap := 3) rfl rfl (Nat.le_refl _))
      have B4 := Lib.hid (BB.out.trans (BN.out.mono BB.out.size))
      have MA := Lib.hid ((R.out.below BN.out).below (below1 w4 (.cells #[.int .i64 s0, .int .u32 s1, .int .u32 s2, .int .i64 t0, .int .u32 t1, .int .u32 t2, .int .i64 r0, .int .u32 r1, .int .u32 r2] 66)))
      have BA := Lib.hid (B4.out.alloc B4.out.size (.cells #[.int .i64 s0, .int .u32 s1, .int .u32 s2, .int .i64 t0, .int .u32 t1, .int .u32 t2, .int .i64 r0, .int .u32 r1, .int .u32 r2] 66))
      go_wp2_with (first
        | (at_builtin; refine wpList_appK (w0 := w) Tryd.underlying35 infoWd rfl (by decide) _ rfl (.tmp 36) (.tmp 37) rfl rfl BA.out MA.out rfl E3.out (by simp; rw [RL.out]; omega) ?_; intro v3 w3 rr3 b3 g3; obtain ⟨a6, c6, e6⟩ : ∃ a c, v3 = .slice a (2 + 3 * k + 3) c := (by obtain ⟨a, c, h, _⟩ := rr3.form; exact ⟨a, c, by rw [h, List.length_append, RL.out]; rfl⟩); subst e6; have R3 := Lib.hid rr3; have B3 := Lib.hid b3; clear rr3 b3 g3)
        | fail)
      go_roundw
      case rel => exact ⟨k + 1, by omega, by go_num, by rw [TS.out, ← List.append_assoc, HU.out, PP.out]; exact R3.out, B3.out⟩
      case measure => simp [intOf]; omega
    · obtain rfl : k = n := by omega
      have O := Lib.hid R.out
      obtain ⟨ra, rc, e6, _⟩ := R.out.form
      obtain ⟨U, hU⟩ : ∃ U, headL (a, b, c, L) ++ bodyL (L.take k) = U := ⟨_, rfl⟩
      have HU := Lib.hid hU
      rw [hU] at O R e6
      clear hU
      subst e6
      go_wp2_with fail
      go_ret2
      refine ⟨_, rfl, ?_, BB.out⟩
      rw [show wordsD (a, b, c, L) = U by rw [← HU.out, List.take_of_length_le (by rw [HN.out]; exact Nat.le_refl _)]; rfl]
      exact O.out
end Go.Proofs.YtfegeahieajmkaaDoor
