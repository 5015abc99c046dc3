/- The reference's Words. -/
import Derived.Test.YtfegeahieajmkaaDoorDsRPack
import Derived.Test.YtfegeahieajmkaaDoorDsWords
import Derived.Deep.DeepCutAuto
namespace Go.Proofs.YtfegeahieajmkaaDoor
open Go.ChangeShapes Go.WideShapes Go.ChangeAt Go.RowKit Go.Maps
open Lay (startL checkI placeI mayI sizeI Ok starts checkI_ok)
set_option maxRecDepth 100000 in
set_option maxHeartbeats 6400000 in
theorem rwords_any (a b c : Int) (v : Value) (L : List En) (w : World) (hv : ES w v L) (hl : L.length ≤ 1000) : Calls Tryd.prog 19 #[dV a b c v] w fun e w' => ∃ u, e = .returned u ∧ RowK wdE 47 w.heap.size w' u (wordsD (a, b, c, L)) ∧ Below w.heap.size w w' := by
  have HV := Lib.hid hv
  obtain ⟨a1, cp, rfl, hcap⟩ := hv.form
  obtain ⟨n, hn⟩ : ∃ n, L.length = n := ⟨_, rfl⟩
  rw [hn] at HV hl hcap ⊢
  have HN := Lib.hid hn
  clear hv hn
  obtain ⟨bv, hbv⟩ : ∃ x, IntKind.u32.wrap b = x := ⟨_, rfl⟩
  have HBV := Lib.hid hbv
  have hb2 : b % 4294967296 = bv := hbv
  clear hbv
  have BB := Lib.hid (below1 w (.cells #[.int .i64 a, .int .i64 b, .int .i64 c, .slice a1 n cp] 39))
  have DB := Lib.hid (Box.new w #[.int .i64 a, .int .i64 b, .int .i64 c, .slice a1 n cp] 39 rfl)
  go_enter Tryd.func19, Tryd.ntmps19
  go_upto_region 1 with fail
  obtain ⟨W, hW⟩ : ∃ W, w.alloc (.cells #[.int .i64 a, .int .i64 b, .int .i64 c, .slice a1 n cp] 39) = W := ⟨_, rfl⟩
  obtain ⟨q, hq⟩ : ∃ q, w.heap.size = q := ⟨_, rfl⟩
  have HQ := Lib.hid hq
  rw [hW] at BB DB
  rw [hq] at DB
  rw [hW, hq]
  clear hW hq
  have y0 := DB.out.cell 0
  have y1 := DB.out.cell 1
  have y2 := DB.out.cell 2
  have y3 := DB.out.cell 3
  simp at y0 y1 y2 y3
  go_upto_region 2 with fail
  rw [hb2]
  have R := Lib.hid (RowK.ofBox (E := wdE) (B := w.heap.size) (L := headL (a, b, c, L)) (n := 2) (Box.new W #[.int .i64 c, .int .u32 bv, .int .u32 0, .int .i64 n, .int .u32 0, .int .u32 0] 47 rfl) BB.out.size rfl (by rw [← HN.out, ← HBV.out]; rfl) (by decide : 2 ≤ 100000))
  have B1 := Lib.hid (below1 W (.cells #[.int .i64 c, .int .u32 bv, .int .u32 0, .int .i64 n, .int .u32 0, .int .u32 0] 47))
  replace DB := Lib.hid (DB.out.below B1.out)
  replace BB := Lib.hid (BB.out.trans (B1.out.mono BB.out.size))
  clear B1 y0 y1 y2 y3 hb2
  generalize W.alloc (.cells #[.int .i64 c, .int .u32 bv, .int .u32 0, .int .i64 n, .int .u32 0, .int .u32 0] 47) = W5 at *
  generalize W.heap.size = g at *
  go_wp2_with fail
  go_loopw [3, 4] (fun sv iv wr => ∃ k : Nat, k ≤ n ∧ iv = .int .i64 k ∧ RowK wdE 47 w.heap.size wr sv (headL (a, b, c, L) ++ bodyL (L.take k)) ∧ Box wr q #[.int .i64 a, .int .i64 b, .int .i64 c, .slice a1 n cp] 39 ∧ Below w.heap.size w wr) (fun _ iv _ => n - (intOf iv).toNat)
  case atStart => exact ⟨0, by omega, rfl, R.out, DB.out, BB.out⟩
  case round =>
    obtain ⟨k, hk, rfl, hr, hd, hb⟩ := hrel
    replace BB := Lib.hid hb
    replace R := Lib.hid hr
    replace DB := Lib.hid hd
    clear hb hr hd
    have y0 := DB.out.cell 0
    have y1 := DB.out.cell 1
    have y2 := DB.out.cell 2
    have y3 := DB.out.cell 3
    simp at y0 y1 y2 y3
    by_cases hlt : k < n
    · have TS := Lib.hid (bodyL_take L (k := k) (by rw [HN.out]; exact hlt))
      have RL : Hid ((headL (a, b, c, L) ++ bodyL (L.take k)).length = 2 + 3 * k) := Lib.hid (by rw [List.length_append, bodyL_len, List.length_take, HN.out, Nat.min_eq_left hk]; rfl)
      obtain ⟨b0, off, rfl, hbl, hln, hc⟩ := HV.out.addr hlt
      obtain ⟨c0, c1, c2, c3, c4, c5⟩ := en_cells hc (by rw [hln]; exact hlt)
      rw [← BB.out.cell (p := ⟨b0, _, none⟩) hbl] at c0 c1 c2 c3 c4 c5
      have PK := Lib.hid (rentry_any L[k]!)
      unfold enV w3V at PK
      clear hc hln
      obtain ⟨U, hU⟩ : ∃ U, headL (a, b, c, L) ++ bodyL (L.take k) = U := ⟨_, rfl⟩
      rw [hU] at RL R
      have HU := Lib.hid hU
      clear hU
      obtain ⟨y, hy⟩ : ∃ y, L[k]! = y := ⟨_, rfl⟩
      rw [hy] at c0 c1 c2 c3 c4 c5 TS PK
      clear hy
      obtain ⟨p0, hp0⟩ : ∃ p, pw0 y = p := ⟨_, rfl⟩
      obtain ⟨p1, hp1⟩ : ∃ p, pw1 y = p := ⟨_, rfl⟩
      obtain ⟨p2, hp2⟩ : ∃ p, pw2 y = p := ⟨_, rfl⟩
      have PP : Hid (packL y = [p0, p1, p2]) := Lib.hid (by rw [← hp0, ← hp1, ← hp2]; rfl)
      rw [hp0, hp1, hp2] at PK
      clear hp0 hp1 hp2
      obtain ⟨e0, ⟨e1, e2, e3⟩, e4, e5⟩ := y
      obtain ⟨s0, s1, s2⟩ := p0
      obtain ⟨t0, t1, t2⟩ := p1
      obtain ⟨r0, r1, r2⟩ := p2
      simp only at c0 c1 c2 c3 c4 c5 PK
      obtain ⟨ra, rc, e6, _⟩ := R.out.form
      rw [RL.out] at e6
      subst e6
      go_wp2_with fail
      refine (PK.out _).mono ?_
      rintro e w4 ⟨rfl, hb⟩
      have BN := Lib.hid hb
      clear hb c0 c1 c2 c3 c4 c5
      go_upto_region 6 with fail
      have X5 := Lib.hid (Box.new w4 #[.int .i64 s0, .int .u32 s1, .int .u32 s2, .int .i64 t0, .int .u32 t1, .int .u32 t2, .int .i64 r0, .int .u32 r1, .int .u32 r2] 66 rfl)
      have B4 := Lib.hid (BN.out.trans ((below1 w4 (.cells #[.int .i64 s0, .int .u32 s1, .int .u32 s2, .int .i64 t0, .int .u32 t1, .int .u32 t2, .int .i64 r0, .int .u32 r1, .int .u32 r2] 66)).mono BN.out.size))
      replace DB := Lib.hid (DB.out.below B4.out)
      replace R := Lib.hid (R.out.below B4.out)
      replace BB := Lib.hid (BB.out.trans (B4.out.mono BB.out.size))
      clear B4 y0 y1 y2 y3 BN
      generalize w4.alloc (.cells #[.int .i64 s0, .int .u32 s1, .int .u32 s2, .int .i64 t0, .int .u32 t1, .int .u32 t2, .int .i64 r0, .int .u32 r1, .int .u32 r2] 66) = W6 at *
      generalize w4.heap.size = p5 at *
      have x0 := X5.out.cell 0
      have x1 := X5.out.cell 1
      have x2 := X5.out.cell 2
      have x3 := X5.out.cell 3
      have x4 := X5.out.cell 4
      have x5 := X5.out.cell 5
      have x6 := X5.out.cell 6
      have x7 := X5.out.cell 7
      have x8 := X5.out.cell 8
      simp at x0 x1 x2 x3 x4 x5 x6 x7 x8
      have E3 := Lib.hid (SK.ofBox (E := wdE) (Box.new W6 #[.int .i64 s0, .int .u32 s1, .int .u32 s2, .int .i64 t0, .int .u32 t1, .int .u32 t2, .int .i64 r0, .int .u32 r1, .int .u32 r2] 47 rfl) (L := [(s0, s1, s2), (t0, t1, t2), (r0, r1, r2)]) (n := 3) (cap := 3) rfl rfl (Nat.le_refl _))
      have MA := Lib.hid (R.out.below (below1 W6 (.cells #[.int .i64 s0, .int .u32 s1, .int .u32 s2, .int .i64 t0, .int .u32 t1, .int .u32 t2, .int .i64 r0, .int .u32 r1, .int .u32 r2] 47)))
      have DA := Lib.hid (DB.out.below (below1 W6 (.cells #[.int .i64 s0, .int .u32 s1, .int .u32 s2, .int .i64 t0, .int .u32 t1, .int .u32 t2, .int .i64 r0, .int .u32 r1, .int .u32 r2] 47)))
      have BA := Lib.hid (BB.out.alloc BB.out.size (.cells #[.int .i64 s0, .int .u32 s1, .int .u32 s2, .int .i64 t0, .int .u32 t1, .int .u32 t2, .int .i64 r0, .int .u32 r1, .int .u32 r2] 47))
      go_wp2_with (first
        | (at_builtin; refine wpList_appK (w0 := w) Tryd.underlying35 infoWd rfl (by decide) _ rfl (.tmp 30) (.tmp 37) rfl rfl BA.out MA.out rfl E3.out (by simp; rw [RL.out]; omega) ?_; intro v3 w3 rr3 b3 g3; obtain ⟨a6, c6, e6⟩ : ∃ a c, v3 = .slice a (2 + 3 * k + 3) c := (by obtain ⟨a, c, h, _⟩ := rr3.form; exact ⟨a, c, by rw [h, List.length_append, RL.out]; rfl⟩); subst e6; have R3 := Lib.hid rr3; have B3 := Lib.hid b3; have D3 := Lib.hid (DA.out.grown g3 (box_not_rowK MA.out DA.out (by decide))); clear rr3 b3 g3)
        | fail)
      go_roundw
      case rel => exact ⟨k + 1, by omega, by go_num, by rw [TS.out, ← List.append_assoc, HU.out, PP.out]; exact R3.out, D3.out, B3.out⟩
      case measure => simp [intOf]; omega
    · obtain rfl : k = n := by omega
      have O := Lib.hid R.out
      obtain ⟨ra, rc, e6, _⟩ := R.out.form
      obtain ⟨U, hU⟩ : ∃ U, headL (a, b, c, L) ++ bodyL (L.take k) = U := ⟨_, rfl⟩
      have HU := Lib.hid hU
      rw [hU] at O R e6
      clear hU
      subst e6
      go_wp2_with fail
      go_ret
      refine ⟨_, rfl, ?_, BB.out⟩
      rw [show wordsD (a, b, c, L) = U by rw [← HU.out, List.take_of_length_le (by rw [HN.out]; exact Nat.le_refl _)]; rfl]
      exact O.out
end Go.Proofs.YtfegeahieajmkaaDoor
