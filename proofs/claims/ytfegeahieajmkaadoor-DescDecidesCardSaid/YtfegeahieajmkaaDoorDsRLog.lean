/- The reference's Logical. -/
import Derived.Test.YtfegeahieajmkaaDoorDsRRead
import Derived.Test.YtfegeahieajmkaaDoorDsLog
import Derived.Deep.DeepCutAuto
import Derived.Deep.QuietTactic
import Derived.BigQuiet
namespace Go.Proofs.YtfegeahieajmkaaDoor
open Go.ChangeShapes Go.WideShapes Go.ChangeAt Go.RowKit Go.Maps
open Lay (startL checkI placeI mayI sizeI Ok starts checkI_ok)
theorem rdE_seq {T C B : Nat} (h : Ok T C B) {M : List Wd} {who : Int} (hl : startL T C B 7 ≤ M.length) (h0 : rdE T C B M who = 0) : 1 ≤ (rdD T C B M who).2.1 := by
  have e : rdD T C B M who = descA (M.drop (placeI T C B who).1.toNat) who := by unfold rdD; rw [if_pos h0]
  rw [rdE_long h hl] at h0
  by_cases h1 : (placeI T C B who).1 < 0
  · rw [if_pos h1] at h0; cases h0
  rw [if_neg h1] at h0
  by_cases h2 : rdB T C B (M.drop (placeI T C B who).1.toNat) who = true
  · unfold rdB at h2
    rw [Bool.and_eq_true, Bool.and_eq_true] at h2
    have h3 := of_decide_eq_true h2.2.1
    rw [e]
    generalize descA (M.drop (placeI T C B who).1.toNat) who = D at h3 ⊢
    obtain ⟨d0, d1, d2, L⟩ := D
    exact ((chkD_zero h d0 d1 d2 L).1 h3).2.1
  · rw [if_neg h2] at h0; cases h0
theorem rdE_none {T C B : Nat} (h : Ok T C B) {M : List Wd} {who : Int} (hl : startL T C B 7 ≤ M.length) (hp : placeI T C B who = (-1, 0)) : rdE T C B M who = 3 := by
  rw [rdE_long h hl, hp, if_pos (by decide)]
/-- Whether the operation that a reference names is done there, by its two parts alone. -/
theorem own_parts {T C B : Nat} (h : Ok T C B) {M : List Wd} (hl : startL T C B 7 ≤ M.length) (y0 y1 : Int) (r : Nat) : ownB T C B M (y0, y1, (r : Int)) = (decide (rdE T C B M ((r / 16777216 : Nat) : Int) = 0) && (decide ((rdD T C B M ((r / 16777216 : Nat) : Int)).2.1 = ((r % 16777216 : Nat) : Int)) && decide ((rdD T C B M ((r / 16777216 : Nat) : Int)).2.2.1 = 1))) := by
  have hB := h.1.2.2
  have hT := h.1.2.1
  unfold ownB whoI
  simp only
  have e1 : (r : Int) / 16777216 = ((r / 16777216 : Nat) : Int) := by simp
  have e2 : (r : Int) % 16777216 = ((r % 16777216 : Nat) : Int) := by simp
  rw [e1, e2]
  obtain ⟨x, hx⟩ : ∃ x, r / 16777216 = x := ⟨_, rfl⟩
  obtain ⟨y, hy⟩ : ∃ x, r % 16777216 = x := ⟨_, rfl⟩
  rw [hx, hy]
  by_cases hc : 1 ≤ (x : Int) ∧ (x : Int) ≤ 72 ∧ 1 ≤ (y : Int)
  · rw [if_pos hc]
  · rw [if_neg hc]
    have z0 : rdE T C B M 0 = 3 := rdE_none h hl (by rw [place_ok h, if_neg (by omega), if_neg (by omega)])
    rw [show (((0 : Int), (0 : Int)) : Int × Int).1 = 0 from rfl, z0]
    by_cases hx2 : 1 ≤ (x : Int) ∧ (x : Int) ≤ 72
    · have hy0 : (y : Int) = 0 := by omega
      by_cases h0 : rdE T C B M (x : Int) = 0
      · have := rdE_seq h hl h0
        rw [hy0, decide_eq_false (show ¬ (rdD T C B M (x : Int)).2.1 = 0 by omega)]
        simp
      · rw [decide_eq_false h0]; rfl
    · have : rdE T C B M (x : Int) = 3 := rdE_none h hl (by rw [place_ok h, if_neg (by omega), if_neg (by omega)])
      rw [this]; rfl
theorem own_who {T C B : Nat} (h : Ok T C B) {M : List Wd} (hl : startL T C B 7 ≤ M.length) {y0 y1 : Int} {r : Nat} (ho : ownB T C B M (y0, y1, (r : Int)) = true) : (whoI (r : Int)).1 = ((r / 16777216 : Nat) : Int) := by
  have e1 : (r : Int) / 16777216 = ((r / 16777216 : Nat) : Int) := by simp
  unfold ownB at ho
  rw [Bool.and_eq_true] at ho
  have h0 := of_decide_eq_true ho.1
  simp only at h0
  unfold whoI at h0 ⊢
  by_cases hc : 1 ≤ (r : Int) / 16777216 ∧ (r : Int) / 16777216 ≤ 72 ∧ 1 ≤ (r : Int) % 16777216
  · rw [if_pos hc]; exact e1
  · rw [if_neg hc] at h0
    have z0 : rdE T C B M 0 = 3 := rdE_none h hl (by rw [place_ok h, if_neg (by omega), if_neg (by omega)])
    simp only at h0
    rw [z0] at h0
    cases h0
theorem logL_parts {T C B : Nat} (h : Ok T C B) {M : List Wd} (hl : startL T C B 7 ≤ M.length) (x y0 y1 : Int) (r : Nat) : logL T C B M x (y0, y1, (r : Int)) = if (decide (rdE T C B M ((r / 16777216 : Nat) : Int) = 0) && (decide ((rdD T C B M ((r / 16777216 : Nat) : Int)).2.1 = ((r % 16777216 : Nat) : Int)) && decide ((rdD T C B M ((r / 16777216 : Nat) : Int)).2.2.1 = 1))) = true then
    match (rdD T C B M ((r / 16777216 : Nat) : Int)).2.2.2.find? (hitE x) with
    | some e => (e.2.2.1, IntKind.u32.wrap (y1 + 1), (0 : Int))
    | none => (y0, y1, (0 : Int))
  else (y0, y1, (0 : Int)) := by
  rw [← own_parts h hl y0 y1 r]
  unfold logL
  simp only
  by_cases ho : ownB T C B M (y0, y1, (r : Int)) = true
  · rw [if_pos ho, if_pos ho, own_who h hl ho]; rfl
  · rw [if_neg ho, if_neg ho]
set_option maxRecDepth 100000 in
set_option maxHeartbeats 6400000 in
theorem rlogical_any (T C B : Nat) (u v : Value) (M : List Wd) (k : Nat) (w : World) (hok : Ok T C B) (hu : SK blE w u (mayBs T C B (startL T C B 7))) (hv : WS w v M) (hl : startL T C B 7 ≤ M.length) (hk : M.length ≤ 5000) (ho : ∀ x ∈ M, OkW x) (hkn : k < M.length) : Calls Tryd.prog 32 #[PlV T C B u, v, .int .i64 k] w fun e w' => e = .returned (wdV (logL T C B M k M[k]!)) ∧ Below w.heap.size w w' := by
  have HV := Lib.hid hv
  have HO := Lib.hid ho
  have OK := Lib.hid hok
  have RR := Lib.hid (fun who W h hw => rread_any T C B u v M who W hok (hu.below h) (hv.below h) hl hk ho hw)
  have OP := Lib.hid (fun y0 y1 r => logL_parts hok hl k y0 y1 r)
  have RN := Lib.hid (rdD_len hok M)
  have HLL := Lib.hid hl
  obtain ⟨a1, cp, rfl, hcap⟩ := hv.form
  obtain ⟨pua, puc, rfl, _⟩ := hu.form
  rw [mayBs_len] at RR ⊢
  unfold PlV at *
  obtain ⟨n, hn⟩ : ∃ n, M.length = n := ⟨_, rfl⟩
  have HN := Lib.hid hn
  rw [hn] at HV hcap hk hkn RR ⊢
  obtain ⟨pn, hpn⟩ : ∃ n, startL T C B 7 = n := ⟨_, rfl⟩
  obtain ⟨s4, hs4⟩ : ∃ n, startL T C B 4 = n := ⟨_, rfl⟩
  obtain ⟨rm, hrm⟩ : ∃ n, roomsI T C B = n := ⟨_, rfl⟩
  rw [hpn, hs4, hrm] at RR ⊢
  obtain ⟨ow, how⟩ : ∃ y, logL T C B M k M[k]! = y := ⟨_, rfl⟩
  have HX := Lib.hid how.symm
  rw [how]
  have YO := Lib.hid (HO.out _ (mem_at (L := M) (k := k) (by rw [HN.out]; exact hkn)))
  obtain ⟨b, off, rfl, hbl, hln, hc⟩ := HV.out.addr hkn
  obtain ⟨c0, c1, c2⟩ := wd_cells hc (by rw [hln]; exact hkn)
  clear hc hln hv hn hpn hs4 hrm hu ho hok hl how HO HV
  obtain ⟨y, hy⟩ : ∃ y, M[k]! = y := ⟨_, rfl⟩
  rw [hy] at c0 c1 c2 YO HX
  clear hy
  obtain ⟨y0, y1, y2⟩ := y
  obtain ⟨-, ⟨o1, o2⟩, o3, o4⟩ := YO.out
  simp only at c0 c1 c2 o1 o2 o3 o4
  clear YO
  obtain ⟨r, rfl⟩ : ∃ k : Nat, y2 = k := ⟨y2.toNat, by omega⟩
  rw [OP.out] at HX
  clear OP
  have CC := Lib.hid (fun W' (h : Below w.heap.size w W') => (show W'.cell? ⟨b, off + k * 3, none⟩ = some (.int .i64 y0) ∧ W'.cell? ⟨b, off + k * 3 + 1, none⟩ = some (.int .u32 y1) ∧ W'.cell? ⟨b, off + k * 3 + 2, none⟩ = some (.int .u32 (r : Nat)) from ⟨(h.cell hbl).trans c0, (h.cell hbl).trans c1, (h.cell hbl).trans c2⟩))
  clear c0 c1 c2 hbl
  have m1 : (r : Int).tdiv 16777216 = ((r / 16777216 : Nat) : Int) := by rw [Int.tdiv_eq_ediv_of_nonneg (by omega)]; simp
  have m2 : (r : Int).tmod 16777216 = ((r % 16777216 : Nat) : Int) := by rw [Int.tmod_eq_emod_of_nonneg (by omega)]; simp
  have m3 : (r : Int) / 16777216 = ((r / 16777216 : Nat) : Int) := by simp
  have m4 : (r : Int) % 16777216 = ((r % 16777216 : Nat) : Int) := by simp
  have r1 : r / 16777216 < 256 := by omega
  have r2 : r % 16777216 < 16777216 := Nat.mod_lt _ (by omega)
  have HR0 := Lib.hid (show (r : Int) = 0 → ((r / 16777216 : Nat) : Int) = 0 by intro h; omega)
  obtain ⟨s0, hs0⟩ : ∃ x, r / 16777216 = x := ⟨_, rfl⟩
  obtain ⟨s1, hs1⟩ : ∃ x, r % 16777216 = x := ⟨_, rfl⟩
  rw [hs0] at m1 m3 r1 HX HR0
  rw [hs1] at m2 m4 r2 HX
  clear hs0 hs1
  have z1 : IntKind.u32.wrap (s0 : Int) = (s0 : Int) := Int.emod_eq_of_lt (by omega) (show (s0 : Int) < 4294967296 by omega)
  have z2 : IntKind.u32.wrap (s1 : Int) = (s1 : Int) := Int.emod_eq_of_lt (by omega) (show (s1 : Int) < 4294967296 by omega)
  have z3 : IntKind.i64.wrap (s0 : Int) = (s0 : Int) := IntWalk.i64_in _ (by omega)
  have z4 : IntKind.i64.wrap (s1 : Int) = (s1 : Int) := IntWalk.i64_in _ (by omega)
  have Z0 := Lib.hid (show (s0 : Int) = 0 → rdE T C B M (s0 : Int) = 3 from fun h => by
    rw [h]; exact rdE_none OK.out HLL.out (by rw [place_ok OK.out, if_neg (by omega), if_neg (by omega)]))
  unfold wdV
  go_enter Tryd.func32, Tryd.ntmps32
  go_upto_region 1 with fail
  have B1 := Lib.hid (below1 w (.cells #[.int .i64 T, .int .i64 B, .int .i64 s4, .int .i64 rm, .int .i64 104, .int .i64 32, .slice pua pn puc, .int .i64 pn] 32))
  have B2 := Lib.hid (below1 (w.alloc (.cells #[.int .i64 T, .int .i64 B, .int .i64 s4, .int .i64 rm, .int .i64 104, .int .i64 32, .slice pua pn puc, .int .i64 pn] 32)) (.cells #[.int .i64 0, .int .u32 0, .int .u32 0] 47))
  have BB := Lib.hid (B1.out.trans (B2.out.mono B1.out.size))
  have P3 := Lib.hid ((Box.new w #[.int .i64 T, .int .i64 B, .int .i64 s4, .int .i64 rm, .int .i64 104, .int .i64 32, .slice pua pn puc, .int .i64 pn] 32 rfl).below B2.out)
  have RB := Lib.hid (Box.new (w.alloc (.cells #[.int .i64 T, .int .i64 B, .int .i64 s4, .int .i64 rm, .int .i64 104, .int .i64 32, .slice pua pn puc, .int .i64 pn] 32)) #[.int .i64 0, .int .u32 0, .int .u32 0] 47 (n := w.heap.size + 1) (by simp))
  obtain ⟨W, hW⟩ : ∃ W, ((w.alloc (.cells #[.int .i64 T, .int .i64 B, .int .i64 s4, .int .i64 rm, .int .i64 104, .int .i64 32, .slice pua pn puc, .int .i64 pn] 32)).alloc (.cells #[.int .i64 0, .int .u32 0, .int .u32 0] 47)) = W := ⟨_, rfl⟩
  obtain ⟨q, hq⟩ : ∃ q, w.heap.size = q := ⟨_, rfl⟩
  have HQ := Lib.hid hq
  rw [hW] at BB P3 RB
  rw [hq] at P3 RB
  rw [hW, hq]
  clear hW hq B1 B2
  obtain ⟨c0, c1, c2⟩ := CC.out _ BB.out
  go_upto_region 2 with fail
  have SB := Lib.hid (Box.new W #[.int .i64 y0, .int .u32 y1, .int .u32 (r : Nat)] 47 rfl)
  have B5 := Lib.hid (below1 W (.cells #[.int .i64 y0, .int .u32 y1, .int .u32 (r : Nat)] 47))
  replace P3 := Lib.hid (P3.out.below B5.out)
  replace RB := Lib.hid (RB.out.below B5.out)
  replace BB := Lib.hid (BB.out.trans (B5.out.mono BB.out.size))
  clear c0 c1 c2 B5
  generalize W.alloc (.cells #[.int .i64 y0, .int .u32 y1, .int .u32 (r : Nat)] 47) = W5 at *
  generalize W.heap.size = p at *
  have v0 := SB.out.cell 0
  have v1 := SB.out.cell 1
  have v2 := SB.out.cell 2
  simp at v0 v1 v2
  go_quiet (fail)
  clear v0 v1 v2 m1 m2 m3 m4 z1 z2 z3 z4 r2
  have B5 := Lib.hid (below_drewN (Below.refl W5.heap.size W5) nq)
  replace P3 := Lib.hid (P3.out.below B5.out)
  replace RB := Lib.hid (RB.out.below B5.out)
  replace BB := Lib.hid (BB.out.trans (B5.out.mono BB.out.size))
  replace SB := Lib.hid (SB.out.below B5.out)
  clear B5
  generalize W5.drewN nq = W6 at *
  have v0 := SB.out.cell 0
  have v1 := SB.out.cell 1
  have v2 := SB.out.cell 2
  simp at v0 v1 v2
  go_upto_region 4 with fail
  have OB := Lib.hid (Box.new W6 #[.int .i64 y0, .int .u32 y1, .int .u32 0] 47 rfl)
  have B5 := Lib.hid (below1 W6 (.cells #[.int .i64 y0, .int .u32 y1, .int .u32 0] 47))
  replace P3 := Lib.hid (P3.out.below B5.out)
  replace RB := Lib.hid (RB.out.below B5.out)
  replace BB := Lib.hid (BB.out.trans (B5.out.mono BB.out.size))
  replace SB := Lib.hid (SB.out.below B5.out)
  clear B5 v0 v1 v2
  generalize W6.alloc (.cells #[.int .i64 y0, .int .u32 y1, .int .u32 0] 47) = W7 at *
  generalize W6.heap.size = p2 at *
  by_cases hr0 : (r : Int) = 0
  · have hr1 : ((r : Int) == 0) = true := by rw [beq_iff_eq]; exact hr0
    rw [Z0.out (HR0.out hr0), decide_eq_false (by decide), Bool.false_and, if_neg (by decide)] at HX
    clear hr0
    have v0 := SB.out.cell 0
    have v1 := SB.out.cell 1
    have v2 := SB.out.cell 2
    simp at v0 v1 v2
    have g0 := OB.out.cell 0
    have g1 := OB.out.cell 1
    have g2 := OB.out.cell 2
    simp at g0 g1 g2
    have k0 := RB.out.cell 0
    have k1 := RB.out.cell 1
    have k2 := RB.out.cell 2
    simp at k0 k1 k2
    have f0 := RB.out.free 0
    have f1 := RB.out.free 1
    have f2 := RB.out.free 2
    have l0 := RB.out.lt
    go_wp2_with fail
    clear g0 g1 g2 v0 v1 v2
    clear k0 k1 k2 f0 f1 f2 l0
    replace RB : Hid (Box (((W7.setCell ⟨q + 1, 0, none⟩ (.int .i64 y0)).setCell ⟨q + 1, 1, none⟩ (.int .u32 y1)).setCell ⟨q + 1, 2, none⟩ (.int .u32 0)) (q + 1) #[.int .i64 y0, .int .u32 y1, .int .u32 0] 47) := Lib.hid (((RB.out.set 0 _).set 1 _).set 2 _)
    replace BB : Hid (Below w.heap.size w (((W7.setCell ⟨q + 1, 0, none⟩ (.int .i64 y0)).setCell ⟨q + 1, 1, none⟩ (.int .u32 y1)).setCell ⟨q + 1, 2, none⟩ (.int .u32 0))) := Lib.hid (((BB.out.setCell (show w.heap.size ≤ q + 1 by have := HQ.out; omega) _).setCell (show w.heap.size ≤ q + 1 by have := HQ.out; omega) _).setCell (show w.heap.size ≤ q + 1 by have := HQ.out; omega) _)
    generalize (((W7.setCell ⟨q + 1, 0, none⟩ (.int .i64 y0)).setCell ⟨q + 1, 1, none⟩ (.int .u32 y1)).setCell ⟨q + 1, 2, none⟩ (.int .u32 0)) = W7 at *
    have k0 := RB.out.cell 0
    have k1 := RB.out.cell 1
    have k2 := RB.out.cell 2
    simp at k0 k1 k2
    exact bodyPost_ret (v := .agg #[.int .i64 y0, .int .u32 y1, .int .u32 0]) (by simp [results, Tryd.f32, go_sem, k0, k1, k2]) rfl ⟨by rw [HX.out], BB.out⟩
  have hr1 : ((r : Int) == 0) = false := by rw [beq_eq_false_iff_ne]; exact hr0
  have v0 := SB.out.cell 0
  have v1 := SB.out.cell 1
  have v2 := SB.out.cell 2
  simp at v0 v1 v2
  have x0 := P3.out.cell 0
  have x1 := P3.out.cell 1
  have x2 := P3.out.cell 2
  have x3 := P3.out.cell 3
  have x4 := P3.out.cell 4
  have x5 := P3.out.cell 5
  have x6 := P3.out.cell 6
  have x7 := P3.out.cell 7
  simp at x0 x1 x2 x3 x4 x5 x6 x7
  go_wp2_with fail
  refine (RR.out (s0 : Int) _ BB.out (by omega)).mono ?_
  rintro e w6 ⟨⟨d0, d1, d2, da, m, dc, rfl, hd⟩, hb⟩
  have HD := Lib.hid hd
  clear hd RR hr1 hr0 Z0 HR0 v0 v1 v2 x0 x1 x2 x3 x4 x5 x6 x7
  replace P3 := Lib.hid (P3.out.below hb)
  replace RB := Lib.hid (RB.out.below hb)
  replace BB := Lib.hid (BB.out.trans (hb.mono BB.out.size))
  replace SB := Lib.hid (SB.out.below hb)
  replace OB := Lib.hid (OB.out.below hb)
  have BD := Lib.hid (Below.refl w6.heap.size w6)
  clear hb
  have R32 := Lib.hid (RN.out (s0 : Int))
  obtain ⟨re, hre⟩ : ∃ y, rdE T C B M (s0 : Int) = y := ⟨_, rfl⟩
  obtain ⟨d, hdd⟩ : ∃ y, rdD T C B M (s0 : Int) = y := ⟨_, rfl⟩
  rw [hre, hdd] at HX HD
  rw [hdd] at R32
  rw [hre]
  clear hre hdd RN
  go_upto_region 7 with fail
  have DB := Lib.hid (Box.new w6 #[.int .i64 d0, .int .i64 d1, .int .i64 d2, .slice da m dc] 39 rfl)
  have B5 := Lib.hid (below1 w6 (.cells #[.int .i64 d0, .int .i64 d1, .int .i64 d2, .slice da m dc] 39))
  replace P3 := Lib.hid (P3.out.below B5.out)
  replace RB := Lib.hid (RB.out.below B5.out)
  replace BB := Lib.hid (BB.out.trans (B5.out.mono BB.out.size))
  replace SB := Lib.hid (SB.out.below B5.out)
  replace OB := Lib.hid (OB.out.below B5.out)
  replace BD := Lib.hid (BD.out.trans (B5.out.mono BD.out.size))
  clear B5
  generalize hW8 : w6.alloc (.cells #[.int .i64 d0, .int .i64 d1, .int .i64 d2, .slice da m dc] 39) = W8 at *
  clear hW8
  obtain ⟨p3, hp3⟩ : ∃ x, w6.heap.size = x := ⟨_, rfl⟩
  rw [hp3] at DB ⊢
  clear hp3
  have h0 := DB.out.cell 0
  have h1 := DB.out.cell 1
  have h2 := DB.out.cell 2
  have h3 := DB.out.cell 3
  simp at h0 h1 h2 h3
  have g0 := OB.out.cell 0
  have g1 := OB.out.cell 1
  have g2 := OB.out.cell 2
  simp at g0 g1 g2
  by_cases h5 : re = 0
  case neg =>
    rw [decide_eq_false h5, Bool.false_and, if_neg (by decide)] at HX
    rw [decide_eq_false h5]
    have k0 := RB.out.cell 0
    have k1 := RB.out.cell 1
    have k2 := RB.out.cell 2
    simp at k0 k1 k2
    have f0 := RB.out.free 0
    have f1 := RB.out.free 1
    have f2 := RB.out.free 2
    have l0 := RB.out.lt
    go_wp2_with fail
    clear g0 g1 g2 h0 h1 h2 h3
    clear k0 k1 k2 f0 f1 f2 l0
    replace RB : Hid (Box (((W8.setCell ⟨q + 1, 0, none⟩ (.int .i64 y0)).setCell ⟨q + 1, 1, none⟩ (.int .u32 y1)).setCell ⟨q + 1, 2, none⟩ (.int .u32 0)) (q + 1) #[.int .i64 y0, .int .u32 y1, .int .u32 0] 47) := Lib.hid (((RB.out.set 0 _).set 1 _).set 2 _)
    replace BB : Hid (Below w.heap.size w (((W8.setCell ⟨q + 1, 0, none⟩ (.int .i64 y0)).setCell ⟨q + 1, 1, none⟩ (.int .u32 y1)).setCell ⟨q + 1, 2, none⟩ (.int .u32 0))) := Lib.hid (((BB.out.setCell (show w.heap.size ≤ q + 1 by have := HQ.out; omega) _).setCell (show w.heap.size ≤ q + 1 by have := HQ.out; omega) _).setCell (show w.heap.size ≤ q + 1 by have := HQ.out; omega) _)
    generalize (((W8.setCell ⟨q + 1, 0, none⟩ (.int .i64 y0)).setCell ⟨q + 1, 1, none⟩ (.int .u32 y1)).setCell ⟨q + 1, 2, none⟩ (.int .u32 0)) = W7 at *
    have k0 := RB.out.cell 0
    have k1 := RB.out.cell 1
    have k2 := RB.out.cell 2
    simp at k0 k1 k2
    exact bodyPost_ret (v := .agg #[.int .i64 y0, .int .u32 y1, .int .u32 0]) (by simp [results, Tryd.f32, go_sem, k0, k1, k2]) rfl ⟨by rw [HX.out], BB.out⟩
  subst h5
  rw [decide_eq_true rfl, Bool.true_and] at HX
  rw [decide_eq_true rfl]
  obtain ⟨L, e1, e2, hes⟩ := HD.out rfl
  subst e1
  have EV := Lib.hid (hes.below BD.out)
  have HM := Lib.hid e2
  clear hes e2 HD BD
  simp only at HX R32
  have hm32 : m ≤ 32 := by rw [← HM.out]; exact R32.out
  clear R32
  by_cases h6 : d1 = (s1 : Int)
  case neg =>
    have h6' : (d1 == (s1 : Int)) = false := by rw [beq_eq_false_iff_ne]; exact h6
    have h6'' : (d1 != (s1 : Int)) = true := by rw [bne_iff_ne]; exact h6
    rw [decide_eq_false h6, Bool.false_and, if_neg (by decide)] at HX
    have k0 := RB.out.cell 0
    have k1 := RB.out.cell 1
    have k2 := RB.out.cell 2
    simp at k0 k1 k2
    have f0 := RB.out.free 0
    have f1 := RB.out.free 1
    have f2 := RB.out.free 2
    have l0 := RB.out.lt
    go_wp2_with fail
    clear g0 g1 g2 h0 h1 h2 h3
    clear k0 k1 k2 f0 f1 f2 l0
    replace RB : Hid (Box (((W8.setCell ⟨q + 1, 0, none⟩ (.int .i64 y0)).setCell ⟨q + 1, 1, none⟩ (.int .u32 y1)).setCell ⟨q + 1, 2, none⟩ (.int .u32 0)) (q + 1) #[.int .i64 y0, .int .u32 y1, .int .u32 0] 47) := Lib.hid (((RB.out.set 0 _).set 1 _).set 2 _)
    replace BB : Hid (Below w.heap.size w (((W8.setCell ⟨q + 1, 0, none⟩ (.int .i64 y0)).setCell ⟨q + 1, 1, none⟩ (.int .u32 y1)).setCell ⟨q + 1, 2, none⟩ (.int .u32 0))) := Lib.hid (((BB.out.setCell (show w.heap.size ≤ q + 1 by have := HQ.out; omega) _).setCell (show w.heap.size ≤ q + 1 by have := HQ.out; omega) _).setCell (show w.heap.size ≤ q + 1 by have := HQ.out; omega) _)
    generalize (((W8.setCell ⟨q + 1, 0, none⟩ (.int .i64 y0)).setCell ⟨q + 1, 1, none⟩ (.int .u32 y1)).setCell ⟨q + 1, 2, none⟩ (.int .u32 0)) = W7 at *
    have k0 := RB.out.cell 0
    have k1 := RB.out.cell 1
    have k2 := RB.out.cell 2
    simp at k0 k1 k2
    exact bodyPost_ret (v := .agg #[.int .i64 y0, .int .u32 y1, .int .u32 0]) (by simp [results, Tryd.f32, go_sem, k0, k1, k2]) rfl ⟨by rw [HX.out], BB.out⟩
  subst h6
  rw [decide_eq_true rfl, Bool.true_and] at HX
  have h6' : ((s1 : Int) == (s1 : Int)) = true := by rw [beq_iff_eq]
  have h6'' : ((s1 : Int) != (s1 : Int)) = false := by rw [bne_eq_false_iff_eq]
  by_cases h7 : d2 = 1
  case neg =>
    have h7' : (d2 == 1) = false := by rw [beq_eq_false_iff_ne]; exact h7
    have h7'' : (d2 != 1) = true := by rw [bne_iff_ne]; exact h7
    rw [decide_eq_false h7, if_neg (by decide)] at HX
    have k0 := RB.out.cell 0
    have k1 := RB.out.cell 1
    have k2 := RB.out.cell 2
    simp at k0 k1 k2
    have f0 := RB.out.free 0
    have f1 := RB.out.free 1
    have f2 := RB.out.free 2
    have l0 := RB.out.lt
    go_wp2_with fail
    clear g0 g1 g2 h0 h1 h2 h3
    clear k0 k1 k2 f0 f1 f2 l0
    replace RB : Hid (Box (((W8.setCell ⟨q + 1, 0, none⟩ (.int .i64 y0)).setCell ⟨q + 1, 1, none⟩ (.int .u32 y1)).setCell ⟨q + 1, 2, none⟩ (.int .u32 0)) (q + 1) #[.int .i64 y0, .int .u32 y1, .int .u32 0] 47) := Lib.hid (((RB.out.set 0 _).set 1 _).set 2 _)
    replace BB : Hid (Below w.heap.size w (((W8.setCell ⟨q + 1, 0, none⟩ (.int .i64 y0)).setCell ⟨q + 1, 1, none⟩ (.int .u32 y1)).setCell ⟨q + 1, 2, none⟩ (.int .u32 0))) := Lib.hid (((BB.out.setCell (show w.heap.size ≤ q + 1 by have := HQ.out; omega) _).setCell (show w.heap.size ≤ q + 1 by have := HQ.out; omega) _).setCell (show w.heap.size ≤ q + 1 by have := HQ.out; omega) _)
    generalize (((W8.setCell ⟨q + 1, 0, none⟩ (.int .i64 y0)).setCell ⟨q + 1, 1, none⟩ (.int .u32 y1)).setCell ⟨q + 1, 2, none⟩ (.int .u32 0)) = W7 at *
    have k0 := RB.out.cell 0
    have k1 := RB.out.cell 1
    have k2 := RB.out.cell 2
    simp at k0 k1 k2
    exact bodyPost_ret (v := .agg #[.int .i64 y0, .int .u32 y1, .int .u32 0]) (by simp [results, Tryd.f32, go_sem, k0, k1, k2]) rfl ⟨by rw [HX.out], BB.out⟩
  subst h7
  rw [decide_eq_true rfl, if_pos rfl] at HX
  go_wp2_with fail
  clear g0 g1 g2 h0 h1 h2 h3
  go_loopw [13] (fun iv wr => ∃ j : Nat, j ≤ m ∧ iv = .int .i64 j ∧ (∀ i, i < j → hitE k L[i]! = false) ∧ Below W8.heap.size W8 wr) (fun iv _ => m - (intOf iv).toNat)
  case atStart => exact ⟨0, by omega, rfl, fun i hi => by omega, Below.refl _ _⟩
  case round =>
    obtain ⟨j, hj, rfl, hno, hb⟩ := hrel
    have NO := Lib.hid hno
    have BW := Lib.hid hb
    replace P3 := Lib.hid (P3.out.below hb)
    replace RB := Lib.hid (RB.out.below hb)
    replace BB := Lib.hid (BB.out.trans (hb.mono BB.out.size))
    replace SB := Lib.hid (SB.out.below hb)
    replace OB := Lib.hid (OB.out.below hb)
    replace DB := Lib.hid (DB.out.below hb)
    clear hb hno
    have h0 := DB.out.cell 0
    have h1 := DB.out.cell 1
    have h2 := DB.out.cell 2
    have h3 := DB.out.cell 3
    simp at h0 h1 h2 h3
    by_cases hlt : j < m
    · obtain ⟨b2, off2, rfl, hbl2, hln, hc⟩ := EV.out.addr hlt
      obtain ⟨c0, c1, c2, c3, c4, c5⟩ := en_cells hc (by rw [hln]; exact hlt)
      rw [← BW.out.cell (p := ⟨b2, _, none⟩) hbl2] at c0 c1 c2 c3 c4 c5
      clear hc hln
      have FY := Lib.hid (fun h => find_yes (x := k) (L := L) (k := j) (by rw [HM.out]; exact hlt) h NO.out)
      obtain ⟨y, hy⟩ : ∃ y, L[j]! = y := ⟨_, rfl⟩
      have HY := Lib.hid hy
      rw [hy] at c0 c1 c2 c3 c4 c5 FY
      clear hy
      obtain ⟨e0, ⟨e1, e2, e3⟩, e4, e5⟩ := y
      simp only at c0 c1 c2 c3 c4 c5
      go_upto_region 13 with fail
      have EB := Lib.hid (Box.new wr #[.int .i64 e0, .int .i64 e1, .int .u32 e2, .int .u32 e3, .int .i64 e4, .bool e5] 49 rfl)
      have B5 := Lib.hid (below1 wr (.cells #[.int .i64 e0, .int .i64 e1, .int .u32 e2, .int .u32 e3, .int .i64 e4, .bool e5] 49))
      replace P3 := Lib.hid (P3.out.below B5.out)
      replace RB := Lib.hid (RB.out.below B5.out)
      replace BB := Lib.hid (BB.out.trans (B5.out.mono BB.out.size))
      replace SB := Lib.hid (SB.out.below B5.out)
      replace OB := Lib.hid (OB.out.below B5.out)
      replace BW := Lib.hid (BW.out.trans (B5.out.mono BW.out.size))
      clear c0 c1 c2 c3 c4 c5 B5 h0 h1 h2 h3
      generalize wr.alloc (.cells #[.int .i64 e0, .int .i64 e1, .int .u32 e2, .int .u32 e3, .int .i64 e4, .bool e5] 49) = W9 at *
      generalize wr.heap.size = p4 at *
      have v0 := EB.out.cell 0
      have v1 := EB.out.cell 1
      have v2 := EB.out.cell 2
      have v3 := EB.out.cell 3
      have v4 := EB.out.cell 4
      have v5 := EB.out.cell 5
      simp at v0 v1 v2 v3 v4 v5
      by_cases h4 : e0 = (k : Int)
      case neg =>
        have h4' : (e0 == (k : Int)) = false := by rw [beq_eq_false_iff_ne]; exact h4
        go_wp2_with fail
        go_roundw
        case rel =>
          refine ⟨j + 1, by omega, by go_num, fun i hi => ?_, BW.out⟩
          by_cases e : i = j
          · subst e; rw [HY.out]; unfold hitE; rw [decide_eq_false h4]; rfl
          · exact NO.out i (by omega)
        case measure => simp [intOf]; omega
      have h4' : (e0 == (k : Int)) = true := by rw [beq_iff_eq]; exact h4
      cases e5 with
      | false =>
        go_wp2_with fail
        go_roundw
        case rel =>
          refine ⟨j + 1, by omega, by go_num, fun i hi => ?_, BW.out⟩
          by_cases e : i = j
          · subst e; rw [HY.out]; unfold hitE; simp
          · exact NO.out i (by omega)
        case measure => simp [intOf]; omega
      | true =>
        have e7 := FY.out (by unfold hitE; rw [decide_eq_true h4]; rfl)
        rw [e7] at HX
        simp only at HX
        clear FY e7 h4
        have z0 := SB.out.cell 0
        have z1 := SB.out.cell 1
        have z2 := SB.out.cell 2
        simp at z0 z1 z2
        have k0 := RB.out.cell 0
        have k1 := RB.out.cell 1
        have k2 := RB.out.cell 2
        simp at k0 k1 k2
        have f0 := RB.out.free 0
        have f1 := RB.out.free 1
        have f2 := RB.out.free 2
        have l0 := RB.out.lt
        go_wp2_with fail
        clear k0 k1 k2 f0 f1 f2 l0
        replace RB : Hid (Box (((W9.setCell ⟨q + 1, 0, none⟩ (.int .i64 e4)).setCell ⟨q + 1, 1, none⟩ (.int .u32 ((y1 + 1) % 4294967296))).setCell ⟨q + 1, 2, none⟩ (.int .u32 0)) (q + 1) #[.int .i64 e4, .int .u32 ((y1 + 1) % 4294967296), .int .u32 0] 47) := Lib.hid (((RB.out.set 0 _).set 1 _).set 2 _)
        replace BB : Hid (Below w.heap.size w (((W9.setCell ⟨q + 1, 0, none⟩ (.int .i64 e4)).setCell ⟨q + 1, 1, none⟩ (.int .u32 ((y1 + 1) % 4294967296))).setCell ⟨q + 1, 2, none⟩ (.int .u32 0))) := Lib.hid (((BB.out.setCell (show w.heap.size ≤ q + 1 by have := HQ.out; omega) _).setCell (show w.heap.size ≤ q + 1 by have := HQ.out; omega) _).setCell (show w.heap.size ≤ q + 1 by have := HQ.out; omega) _)
        generalize (((W9.setCell ⟨q + 1, 0, none⟩ (.int .i64 e4)).setCell ⟨q + 1, 1, none⟩ (.int .u32 ((y1 + 1) % 4294967296))).setCell ⟨q + 1, 2, none⟩ (.int .u32 0)) = W7 at *
        have k0 := RB.out.cell 0
        have k1 := RB.out.cell 1
        have k2 := RB.out.cell 2
        simp at k0 k1 k2
        exact bodyPost_ret (v := .agg #[.int .i64 e4, .int .u32 ((y1 + 1) % 4294967296), .int .u32 0]) (by simp [results, Tryd.f32, go_sem, k0, k1, k2]) rfl ⟨by rw [HX.out]; rfl, BB.out⟩
    · obtain rfl : j = m := by omega
      rw [find_no (fun i hi => NO.out i (by rw [HM.out] at hi; exact hi))] at HX
      simp only at HX
      have g0 := OB.out.cell 0
      have g1 := OB.out.cell 1
      have g2 := OB.out.cell 2
      simp at g0 g1 g2
      have k0 := RB.out.cell 0
      have k1 := RB.out.cell 1
      have k2 := RB.out.cell 2
      simp at k0 k1 k2
      have f0 := RB.out.free 0
      have f1 := RB.out.free 1
      have f2 := RB.out.free 2
      have l0 := RB.out.lt
      go_wp2_with fail
      clear g0 g1 g2 h0 h1 h2 h3
      clear k0 k1 k2 f0 f1 f2 l0
      replace RB : Hid (Box (((wr.setCell ⟨q + 1, 0, none⟩ (.int .i64 y0)).setCell ⟨q + 1, 1, none⟩ (.int .u32 y1)).setCell ⟨q + 1, 2, none⟩ (.int .u32 0)) (q + 1) #[.int .i64 y0, .int .u32 y1, .int .u32 0] 47) := Lib.hid (((RB.out.set 0 _).set 1 _).set 2 _)
      replace BB : Hid (Below w.heap.size w (((wr.setCell ⟨q + 1, 0, none⟩ (.int .i64 y0)).setCell ⟨q + 1, 1, none⟩ (.int .u32 y1)).setCell ⟨q + 1, 2, none⟩ (.int .u32 0))) := Lib.hid (((BB.out.setCell (show w.heap.size ≤ q + 1 by have := HQ.out; omega) _).setCell (show w.heap.size ≤ q + 1 by have := HQ.out; omega) _).setCell (show w.heap.size ≤ q + 1 by have := HQ.out; omega) _)
      generalize (((wr.setCell ⟨q + 1, 0, none⟩ (.int .i64 y0)).setCell ⟨q + 1, 1, none⟩ (.int .u32 y1)).setCell ⟨q + 1, 2, none⟩ (.int .u32 0)) = W7 at *
      have k0 := RB.out.cell 0
      have k1 := RB.out.cell 1
      have k2 := RB.out.cell 2
      simp at k0 k1 k2
      exact bodyPost_ret (v := .agg #[.int .i64 y0, .int .u32 y1, .int .u32 0]) (by simp [results, Tryd.f32, go_sem, k0, k1, k2]) rfl ⟨by rw [HX.out], BB.out⟩
end Go.Proofs.YtfegeahieajmkaaDoor
