/- The walk through EntryThrees. -/
import Derived.Test.YtjphhfgomlchoaaDoorEnRun0
import Derived.Test.YtjphhfgomlchoaaDoorEnAwake
import Derived.Test.YtjphhfgomlchoaaDoorEnSorts
namespace Go.Proofs.YtjphhfgomlchoaaDoor
open Go.ChangeShapes Go.WideShapes Go.ChangeAt Go.RowKit Go.Maps
theorem wrapIn (n : Int) (h : -9223372036854775808 ≤ n ∧ n ≤ 9223372036854775807) : wrap64 n = n := by unfold wrap64; omega
theorem alike_self (v u : Value) (L : List En) (w : World) (hv : ES w v L) (hu : ES w u L) (hl : L.length ≤ 5000) : Calls Tryd.prog 14 #[v, u] w fun e w' => e = .returned (.bool true) ∧ Below w.heap.size w w' :=
  (alike_any v u L L w hv hu hl).mono fun e w' h => ⟨h.1.trans (by rw [decide_eq_true (Eq.refl L)]), h.2⟩
set_option maxRecDepth 100000 in
set_option maxHeartbeats 12800000 in
theorem threes_walk (W : List Wd) (va vb vc : Value) (A B C : List Pt) (w : World) (hW : W.length = 6) (hO : ∀ x ∈ W, OkW x) (ha : PTS w va A) (hb : PTS w vb B) (hc : PTS w vc C) (oa : ∀ x ∈ A, OkPt x) (ob : ∀ x ∈ B, OkPt x) (oc : ∀ x ∈ C, OkPt x) (la : A.length ≤ maxLen) (lb : B.length ≤ maxLen) (lc : C.length ≤ maxLen) (ht : Tab w) : Calls Tryd.prog 7 #[RunV W va vb vc] w (Good2 w) := by
  have TT := Lib.hid ht
  have HA := Lib.hid ha
  have HB := Lib.hid hb
  have HC := Lib.hid hc
  have OA := Lib.hid oa
  have OB := Lib.hid ob
  have OC := Lib.hid oc
  have HO := Lib.hid hO
  have HW := Lib.hid hW
  obtain ⟨aa, ca, rfl, _⟩ := ha.form
  obtain ⟨ab, cb, rfl, _⟩ := hb.form
  obtain ⟨ac, cc, rfl, _⟩ := hc.form
  obtain ⟨na, hna⟩ : ∃ n, A.length = n := ⟨_, rfl⟩
  obtain ⟨nb, hnb⟩ : ∃ n, B.length = n := ⟨_, rfl⟩
  obtain ⟨nc, hnc⟩ : ∃ n, C.length = n := ⟨_, rfl⟩
  rw [hna] at HA la ⊢
  rw [hnb] at HB lb ⊢
  rw [hnc] at HC lc ⊢
  have NA := Lib.hid hna
  have NB := Lib.hid hnb
  have NC := Lib.hid hnc
  obtain ⟨s1, hs1⟩ : ∃ x, IntKind.i64.wrap ((na : Int) + (nb : Int)) = x := ⟨_, rfl⟩
  obtain ⟨s2, hs2⟩ : ∃ x, IntKind.i64.wrap (s1 + (nc : Int)) = x := ⟨_, rfl⟩
  have LA := Lib.hid la
  have LB := Lib.hid lb
  have LC := Lib.hid lc
  have HTW := Lib.hid (fun W' (h : Below w.heap.size w W') => ht.below h)
  clear ha hb hc oa ob oc ht hna hnb hnc la lb lc hO
  have RT0 := Lib.hid (fun V (h : List.length V = 6) => rc_tail h (.slice aa na ca) (.slice ab nb cb) (.slice ac nc cc))
  have ZS := Lib.hid zA_arr.size
  unfold RunV
  obtain ⟨rc0, hrc0⟩ : ∃ x, rcL W (.slice aa na ca) (.slice ab nb cb) (.slice ac nc cc) = x := ⟨_, rfl⟩
  have RC0 := Lib.hid hrc0
  have RT := Lib.hid (RT0.out W hW)
  rw [hrc0] at RT ⊢
  clear hrc0
  go_enter Tryd.func7, Tryd.ntmps7
  go_upto_region 1 with fail
  have BB := Lib.hid (below1 w (.cells rc0.toArray 43))
  have RB := Lib.hid (Box.new w rc0.toArray 43 rfl)
  replace TT := Lib.hid (TT.out.below BB.out)
  have QB := Lib.hid (Nat.le_refl w.heap.size)
  generalize w.alloc (.cells rc0.toArray 43) = W1 at *
  obtain ⟨q, hq⟩ : ∃ x, w.heap.size = x := ⟨_, rfl⟩
  have HQ := Lib.hid hq
  rw [hq] at RB ⊢
  clear hq QB
  have t18 : World.cell? _ ⟨q, 18, none⟩ = some (Value.slice aa na ca) := (RB.out.cell 18).trans (by rw [List.getElem?_toArray]; exact RT.out.1)
  have t19 : World.cell? _ ⟨q, 19, none⟩ = some (Value.slice ab nb cb) := (RB.out.cell 19).trans (by rw [List.getElem?_toArray]; exact RT.out.2.1)
  have t20 : World.cell? _ ⟨q, 20, none⟩ = some (Value.slice ac nc cc) := (RB.out.cell 20).trans (by rw [List.getElem?_toArray]; exact RT.out.2.2)
  by_cases hs : 60 < s2
  · go_wp2_with fail
    refine (awake_any _ TT.out).mono ?_
    rintro e w99 ⟨rfl, hb⟩
    replace BB := Lib.hid (BB.out.trans (hb.mono BB.out.size))
    clear hb
    go_wp2_with fail
    go_ret
    exact ⟨rfl, BB.out⟩
  have MA1 := Lib.hid (fun V W' h6 (h : Below w.heap.size w W') => made_any (wdE.flat V).toArray V _ A W' ⟨rfl, h6⟩ (HA.out.below h) OA.out (by rw [NA.out]; exact LA.out))
  go_wp2_with fail
  clear t18 t19 t20 hs1 hs2 hs
  go_loopw [38] (fun iv wr => ∃ i : Nat, i ≤ 6 ∧ iv = .int .i64 i ∧ (∀ j, j < i → (W[j]!).2.1 ≤ 1073741824) ∧ Box wr q (rcL (clr W i) (.slice aa na ca) (.slice ab nb cb) (.slice ac nc cc)).toArray 43 ∧ Below w.heap.size w wr ∧ Tab wr) (fun iv _ => 6 - (intOf iv).toNat)
  case atStart => exact ⟨0, by omega, rfl, fun j hj => by omega, by show Box _ _ (rcL W _ _ _).toArray 43; rw [RC0.out]; exact RB.out, BB.out, TT.out⟩
  case round =>
    obtain ⟨i, hi, rfl, hvs, hrb, hbb, htt⟩ := hrel
    clear RB BB TT
    have VS := Lib.hid hvs
    have RB := Lib.hid hrb
    have BB := Lib.hid hbb
    have TT := Lib.hid htt
    clear hvs hrb hbb htt
    have L6 := Lib.hid (show (clr W i).length = 6 by rw [clr_len]; exact HW.out)
    by_cases hlt : i < 6
    · obtain ⟨y0, y1, y2⟩ := rc_word L6.out (.slice aa na ca) (.slice ab nb cb) (.slice ac nc cc) hlt
      have c1 : wr.cell? ⟨q, i * 3 + 1, none⟩ = some (.int .u32 ((clr W i)[i]!).2.1) := (RB.out.cell (i * 3 + 1)).trans (by rw [List.getElem?_toArray]; exact y1)
      have c2 : wr.cell? ⟨q, i * 3 + 2, none⟩ = some (.int .u32 ((clr W i)[i]!).2.2) := (RB.out.cell (i * 3 + 2)).trans (by rw [List.getElem?_toArray]; exact y2)
      have f2 := RB.out.free (i * 3 + 2)
      clear y0 y1 y2
      have VI := Lib.hid (show ((clr W i)[i]!).2.1 = (W[i]!).2.1 by rw [clr_at HW.out i i hlt, if_neg (by omega)])
      have RS := Lib.hid (show Box (wr.setCell ⟨q, i * 3 + 2, none⟩ (.int .u32 0)) q (rcL (clr W (i + 1)) (.slice aa na ca) (.slice ab nb cb) (.slice ac nc cc)).toArray 43 from by
        have := RB.out.set (i * 3 + 2) (.int .u32 0)
        rw [List.setIfInBounds_toArray, rc_set L6.out _ _ _ hlt] at this
        exact this)
      have BS := Lib.hid (BB.out.setCell (p := ⟨q, i * 3 + 2, none⟩) (by show w.heap.size ≤ q; have := HQ.out; omega) (.int .u32 0))
      have TS := Lib.hid (HTW.out _ BS.out)
      obtain ⟨vv, hvv⟩ : ∃ x, ((clr W i)[i]!).2.1 = x := ⟨_, rfl⟩
      rw [hvv] at c1 VI
      clear hvv
      have i6 : (i : Int) < 6 := by omega
      by_cases hv : 1073741824 < vv
      · go_wp2_with fail
        refine (awake_any _ TT.out).mono ?_
        rintro e w99 ⟨rfl, hb⟩
        replace BB := Lib.hid (BB.out.trans (hb.mono BB.out.size))
        clear hb
        go_wp2_with fail
        go_ret
        exact ⟨rfl, BB.out⟩
      have HV := Lib.hid hv
      have hv2 : ¬ 1073741824 < vv := hv
      clear hv
      go_wp2_with fail
      go_roundw
      case rel => exact ⟨i + 1, by omega, by go_num, fun j hj => (by
        by_cases e : j = i
        · subst e; have := VI.out; have := HV.out; omega
        · exact VS.out j (by omega)), RS.out, BS.out, TS.out⟩
      case measure => simp [intOf]; omega
    obtain rfl : i = 6 := by omega
    clear RT RC0
    obtain ⟨W9, hW9⟩ : ∃ X, X = wr := ⟨_, rfl⟩
    subst hW9
    have LOW := Lib.hid (low_clr HW.out HO.out VS.out)
    have RT := Lib.hid (RT0.out (clr W 6) L6.out)
    obtain ⟨V0, hV0⟩ : ∃ X, clr W 6 = X := ⟨_, rfl⟩
    rw [hV0] at RB L6 LOW RT
    clear hV0 VS
    have RW := Lib.hid (fun i (h : i < 6) => rc_word L6.out (.slice aa na ca) (.slice ab nb cb) (.slice ac nc cc) h)
    have RR := Lib.hid (fun W' (h : Box W' q (rcL V0 (.slice aa na ca) (.slice ab nb cb) (.slice ac nc cc)).toArray 43) => rc_range L6.out h)
    obtain ⟨rc, hrc⟩ : ∃ x, rcL V0 (.slice aa na ca) (.slice ab nb cb) (.slice ac nc cc) = x := ⟨_, rfl⟩
    rw [hrc] at RB RT RW RR
    clear hrc RT0
    replace MA1 := Lib.hid (fun W' h => MA1.out V0 W' L6.out h)
    have F18 := Lib.hid (flat18 L6.out)
    have OK1 := Lib.hid (made_ok L6.out A (fun x hx => (OA.out x hx).1.1))
    have OK2 := Lib.hid (fun V (h : List.length V = 6) => made_ok h B (fun x hx => (OB.out x hx).1.1))
    have OK3 := Lib.hid (fun V (h : List.length V = 6) => made_ok h C (fun x hx => (OC.out x hx).1.1))
    obtain ⟨fl, hfl⟩ : ∃ l, wdE.flat V0 = l := ⟨_, rfl⟩
    rw [hfl] at RR F18 MA1
    clear hfl
    have RG := Lib.hid (RR.out _ RB.out)
    have zv := zeroA
    have t18 : World.cell? _ ⟨q, 18, none⟩ = some (Value.slice aa na ca) := (RB.out.cell 18).trans (by rw [List.getElem?_toArray]; exact RT.out.1)
    have t19 : World.cell? _ ⟨q, 19, none⟩ = some (Value.slice ab nb cb) := (RB.out.cell 19).trans (by rw [List.getElem?_toArray]; exact RT.out.2.1)
    have t20 : World.cell? _ ⟨q, 20, none⟩ = some (Value.slice ac nc cc) := (RB.out.cell 20).trans (by rw [List.getElem?_toArray]; exact RT.out.2.2)
    go_wp2_with (first
      | ((with_reducible refine wpList_load_mid rfl 40 (.tmp 54) rfl q 0 rfl fl _ RG.out Tryd.underlying40 rfl ?_ ?_); exact (by rw [F18.out]; exact infoA))
      | fail)
    refine (MA1.out _ BB.out).mono ?_
    rintro e w1 ⟨u1, ds1, rfl, h6, hes, hb⟩
    have A1 := Lib.hid h6
    have DS1 := Lib.hid h6.size
    have D11 := Lib.hid h6.one
    have ES1 := Lib.hid hes
    obtain ⟨ua1, uc1, rfl, _⟩ := hes.form
    clear h6 hes t18 t19 t20
    replace RB := Lib.hid (RB.out.below hb)
    replace TT := Lib.hid (TT.out.below hb)
    replace BB := Lib.hid (BB.out.trans (hb.mono BB.out.size))
    clear hb
    go_upto_region 11 with (first
      | ((with_reducible refine wpList_storeA w1.heap.size ds1 zA 40 ?_ ?_ ?_ ?_ ?_ ?_ ?_); rfl; rfl; exact Box.new w1 zA 40 rfl; exact ZS.out; exact DS1.out; exact D11.out)
      | fail)
    obtain ⟨p5, hp⟩ : ∃ x, w1.heap.size = x := ⟨_, rfl⟩
    obtain ⟨W1', hW⟩ : ∃ X, (w1.alloc (.cells zA 40)).setRow p5 ds1 = X := ⟨_, rfl⟩
    have BX := Lib.hid (show Below w1.heap.size w1 W1' by rw [← hW]; exact below_row (below1 w1 (.cells zA 40)) (by omega) _)
    have X5 : Hid (Box W1' p5 ds1 40) := Lib.hid (by rw [← hW]; exact Box.rowSame (Box.new w1 zA 40 hp.symm))
    rw [hp, hW]
    replace RB := Lib.hid (RB.out.below BX.out)
    replace TT := Lib.hid (TT.out.below BX.out)
    replace ES1 := Lib.hid (ES1.out.below BX.out)
    replace BB := Lib.hid (BB.out.trans (BX.out.mono BB.out.size))
    clear hp hW BX
    clear RG
    obtain ⟨Mk1, l1, Af1⟩ := OK1.out
    have MK1 := Lib.hid Mk1
    have AF1 := Lib.hid Af1
    have SL1 := Lib.hid (mk_len Mk1)
    clear Mk1 Af1 OK1
    obtain ⟨S1, hS1⟩ : ∃ s, madeL V0 A = s := ⟨_, rfl⟩
    rw [hS1] at A1 ES1 MK1 AF1 SL1 l1 ⊢
    clear hS1
    obtain ⟨La, V1⟩ := S1
    simp only at A1 ES1 MK1 AF1 SL1 l1 ⊢
    have LL1 := Lib.hid l1
    clear l1
    obtain ⟨n1, hn1⟩ : ∃ n, La.length = n := ⟨_, rfl⟩
    rw [hn1] at ES1 SL1 ⊢
    have N1 := Lib.hid hn1
    clear hn1
    have MA2 := Lib.hid (fun W' (h : Below w.heap.size w W') => made_any ds1 V1 _ B W' A1.out (HB.out.below h) OB.out (by rw [NB.out]; exact LB.out))
    have t18 : World.cell? _ ⟨q, 18, none⟩ = some (Value.slice aa na ca) := (RB.out.cell 18).trans (by rw [List.getElem?_toArray]; exact RT.out.1)
    have t19 : World.cell? _ ⟨q, 19, none⟩ = some (Value.slice ab nb cb) := (RB.out.cell 19).trans (by rw [List.getElem?_toArray]; exact RT.out.2.1)
    have t20 : World.cell? _ ⟨q, 20, none⟩ = some (Value.slice ac nc cc) := (RB.out.cell 20).trans (by rw [List.getElem?_toArray]; exact RT.out.2.2)
    go_wp2_with (first
      | ((with_reducible refine wpList_loadA p5 ds1 40 ?_ ?_ ?_ ?_); rfl; exact X5.out; exact DS1.out)
      | fail)
    refine (MA2.out _ BB.out).mono ?_
    rintro e w2 ⟨u2, ds2, rfl, h6, hes, hb⟩
    have A2 := Lib.hid h6
    have DS2 := Lib.hid h6.size
    have D12 := Lib.hid h6.one
    have ES2 := Lib.hid hes
    obtain ⟨ua2, uc2, rfl, _⟩ := hes.form
    clear h6 hes t18 t19 t20
    replace RB := Lib.hid (RB.out.below hb)
    replace TT := Lib.hid (TT.out.below hb)
    replace ES1 := Lib.hid (ES1.out.below hb)
    replace BB := Lib.hid (BB.out.trans (hb.mono BB.out.size))
    clear hb
    go_upto_region 12 with (first
      | ((with_reducible refine wpList_storeA w2.heap.size ds2 zA 40 ?_ ?_ ?_ ?_ ?_ ?_ ?_); rfl; rfl; exact Box.new w2 zA 40 rfl; exact ZS.out; exact DS2.out; exact D12.out)
      | fail)
    obtain ⟨p7, hp⟩ : ∃ x, w2.heap.size = x := ⟨_, rfl⟩
    obtain ⟨W2', hW⟩ : ∃ X, (w2.alloc (.cells zA 40)).setRow p7 ds2 = X := ⟨_, rfl⟩
    have BX := Lib.hid (show Below w2.heap.size w2 W2' by rw [← hW]; exact below_row (below1 w2 (.cells zA 40)) (by omega) _)
    have X7 : Hid (Box W2' p7 ds2 40) := Lib.hid (by rw [← hW]; exact Box.rowSame (Box.new w2 zA 40 hp.symm))
    rw [hp, hW]
    replace RB := Lib.hid (RB.out.below BX.out)
    replace TT := Lib.hid (TT.out.below BX.out)
    replace ES1 := Lib.hid (ES1.out.below BX.out)
    replace ES2 := Lib.hid (ES2.out.below BX.out)
    replace BB := Lib.hid (BB.out.trans (BX.out.mono BB.out.size))
    clear hp hW BX
    obtain ⟨Mk2, l2, Af2⟩ := OK2.out V1 LL1.out
    have MK2 := Lib.hid Mk2
    have AF2 := Lib.hid Af2
    have SL2 := Lib.hid (mk_len Mk2)
    clear Mk2 Af2 OK2 X5
    obtain ⟨S2, hS2⟩ : ∃ s, madeL V1 B = s := ⟨_, rfl⟩
    rw [hS2] at A2 ES2 MK2 AF2 SL2 l2 ⊢
    clear hS2
    obtain ⟨Lb, V2⟩ := S2
    simp only at A2 ES2 MK2 AF2 SL2 l2 ⊢
    have LL2 := Lib.hid l2
    clear l2
    obtain ⟨n2, hn2⟩ : ∃ n, Lb.length = n := ⟨_, rfl⟩
    rw [hn2] at ES2 SL2 ⊢
    have N2 := Lib.hid hn2
    clear hn2
    have MA3 := Lib.hid (fun W' (h : Below w.heap.size w W') => made_any ds2 V2 _ C W' A2.out (HC.out.below h) OC.out (by rw [NC.out]; exact LC.out))
    have t18 : World.cell? _ ⟨q, 18, none⟩ = some (Value.slice aa na ca) := (RB.out.cell 18).trans (by rw [List.getElem?_toArray]; exact RT.out.1)
    have t19 : World.cell? _ ⟨q, 19, none⟩ = some (Value.slice ab nb cb) := (RB.out.cell 19).trans (by rw [List.getElem?_toArray]; exact RT.out.2.1)
    have t20 : World.cell? _ ⟨q, 20, none⟩ = some (Value.slice ac nc cc) := (RB.out.cell 20).trans (by rw [List.getElem?_toArray]; exact RT.out.2.2)
    go_wp2_with (first
      | ((with_reducible refine wpList_loadA p7 ds2 40 ?_ ?_ ?_ ?_); rfl; exact X7.out; exact DS2.out)
      | fail)
    refine (MA3.out _ BB.out).mono ?_
    rintro e w3 ⟨u3, ds3, rfl, h6, hes, hb⟩
    have A3 := Lib.hid h6
    have DS3 := Lib.hid h6.size
    have D13 := Lib.hid h6.one
    have ES3 := Lib.hid hes
    obtain ⟨ua3, uc3, rfl, _⟩ := hes.form
    clear h6 hes t18 t19 t20
    replace RB := Lib.hid (RB.out.below hb)
    replace TT := Lib.hid (TT.out.below hb)
    replace ES1 := Lib.hid (ES1.out.below hb)
    replace ES2 := Lib.hid (ES2.out.below hb)
    replace BB := Lib.hid (BB.out.trans (hb.mono BB.out.size))
    clear hb
    go_upto_region 13 with (first
      | ((with_reducible refine wpList_storeA w3.heap.size ds3 zA 40 ?_ ?_ ?_ ?_ ?_ ?_ ?_); rfl; rfl; exact Box.new w3 zA 40 rfl; exact ZS.out; exact DS3.out; exact D13.out)
      | fail)
    obtain ⟨p9, hp⟩ : ∃ x, w3.heap.size = x := ⟨_, rfl⟩
    obtain ⟨W3', hW⟩ : ∃ X, (w3.alloc (.cells zA 40)).setRow p9 ds3 = X := ⟨_, rfl⟩
    have BX := Lib.hid (show Below w3.heap.size w3 W3' by rw [← hW]; exact below_row (below1 w3 (.cells zA 40)) (by omega) _)
    have X9 : Hid (Box W3' p9 ds3 40) := Lib.hid (by rw [← hW]; exact Box.rowSame (Box.new w3 zA 40 hp.symm))
    rw [hp, hW]
    replace RB := Lib.hid (RB.out.below BX.out)
    replace TT := Lib.hid (TT.out.below BX.out)
    replace ES1 := Lib.hid (ES1.out.below BX.out)
    replace ES2 := Lib.hid (ES2.out.below BX.out)
    replace ES3 := Lib.hid (ES3.out.below BX.out)
    replace BB := Lib.hid (BB.out.trans (BX.out.mono BB.out.size))
    clear hp hW BX
    clear zv X7
    obtain ⟨Mk3, l3, Af3⟩ := OK3.out V2 LL2.out
    have MK3 := Lib.hid Mk3
    have AF3 := Lib.hid Af3
    have SL3 := Lib.hid (mk_len Mk3)
    clear Mk3 Af3 OK3
    obtain ⟨S3, hS3⟩ : ∃ s, madeL V2 C = s := ⟨_, rfl⟩
    rw [hS3] at A3 ES3 MK3 AF3 SL3 l3 ⊢
    clear hS3
    obtain ⟨Lc, V3⟩ := S3
    simp only at A3 ES3 MK3 AF3 SL3 l3 ⊢
    have LL3 := Lib.hid l3
    clear l3
    obtain ⟨n3, hn3⟩ : ∃ n, Lc.length = n := ⟨_, rfl⟩
    rw [hn3] at ES3 SL3 ⊢
    have N3 := Lib.hid hn3
    clear hn3
    have TH := Lib.hid (threes LOW.out MK1.out MK2.out MK3.out AF1.out AF2.out AF3.out)
    have MG := Lib.hid (fun v u X Y W' h1 h2 (h3 : List.length X ≤ 6) (h4 : List.length Y ≤ 6) => merge_any srt 20 (fun v L W h hl => by rw [← insS_eq]; exact sort_small v L W h hl) v u X Y W' h1 h2 (show List.length X ≤ 100 from Nat.le_trans h3 (by omega)) (show List.length Y ≤ 100 from Nat.le_trans h4 (by omega)) (Or.inr (show List.length X + List.length Y < 20 by have a1 : List.length X ≤ 6 := h3; have a2 : List.length Y ≤ 6 := h4; omega)))
    clear MK1 MK2 MK3 AF1 AF2 AF3 LOW LL1 LL2 MA1 MA2 MA3 HA HB HC OA OB OC
    go_wp2_with fail
    refine (MG.out _ _ La Lb _ ES1.out ES2.out (by rw [N1.out]; exact SL1.out) (by rw [N2.out]; exact SL2.out)).mono ?_
    rintro e w4 ⟨x4, rfl, hx, hb⟩
    have EX4 := Lib.hid hx
    obtain ⟨xa4, xc4, rfl, _⟩ := hx.form
    clear hx
    replace RB := Lib.hid (RB.out.below hb)
    replace TT := Lib.hid (TT.out.below hb)
    replace ES1 := Lib.hid (ES1.out.below hb)
    replace ES2 := Lib.hid (ES2.out.below hb)
    replace ES3 := Lib.hid (ES3.out.below hb)
    replace X9 := Lib.hid (X9.out.below hb)
    replace BB := Lib.hid (BB.out.trans (hb.mono BB.out.size))
    clear hb
    go_wp2_with fail
    refine (MG.out _ _ Lb Lc _ ES2.out ES3.out (by rw [N2.out]; exact SL2.out) (by rw [N3.out]; exact SL3.out)).mono ?_
    rintro e w5 ⟨x5, rfl, hx, hb⟩
    have EX5 := Lib.hid hx
    obtain ⟨xa5, xc5, rfl, _⟩ := hx.form
    clear hx
    replace RB := Lib.hid (RB.out.below hb)
    replace TT := Lib.hid (TT.out.below hb)
    replace ES1 := Lib.hid (ES1.out.below hb)
    replace ES2 := Lib.hid (ES2.out.below hb)
    replace ES3 := Lib.hid (ES3.out.below hb)
    replace X9 := Lib.hid (X9.out.below hb)
    replace EX4 := Lib.hid (EX4.out.below hb)
    replace BB := Lib.hid (BB.out.trans (hb.mono BB.out.size))
    clear hb
    obtain ⟨t1, t2, t3, t4, t5⟩ := TH.out
    have T5 := Lib.hid t5
    obtain ⟨mab, hmab⟩ : ∃ x, mergeO srt La Lb = x := ⟨_, rfl⟩
    obtain ⟨mbc, hmbc⟩ : ∃ x, mergeO srt Lb Lc = x := ⟨_, rfl⟩
    rw [hmab] at t1 t3 T5 EX4 ⊢
    rw [hmbc] at t2 t4 T5 EX5 ⊢
    clear hmab hmbc t5 TH
    obtain ⟨Lab, rab⟩ := mab
    obtain ⟨Lbc, rbc⟩ := mbc
    simp only at t1 t2 t3 t4 T5 EX4 EX5 ⊢
    subst t1 t2
    have LAB := Lib.hid t3
    have LBC := Lib.hid t4
    clear t3 t4
    obtain ⟨n4, hn4⟩ : ∃ n, Lab.length = n := ⟨_, rfl⟩
    obtain ⟨n5, hn5⟩ : ∃ n, Lbc.length = n := ⟨_, rfl⟩
    rw [hn4] at EX4 LAB ⊢
    rw [hn5] at EX5 LBC ⊢
    have N4 := Lib.hid hn4
    have N5 := Lib.hid hn5
    clear hn4 hn5
    go_wp2_with fail
    refine (MG.out _ _ Lab Lc _ EX4.out ES3.out (by rw [N4.out]; exact LAB.out) (by rw [N3.out]; exact SL3.out)).mono ?_
    rintro e w6 ⟨x6, rfl, hx, hb⟩
    have EX6 := Lib.hid hx
    obtain ⟨xa6, xc6, rfl, _⟩ := hx.form
    clear hx
    replace RB := Lib.hid (RB.out.below hb)
    replace TT := Lib.hid (TT.out.below hb)
    replace ES1 := Lib.hid (ES1.out.below hb)
    replace ES2 := Lib.hid (ES2.out.below hb)
    replace X9 := Lib.hid (X9.out.below hb)
    replace EX5 := Lib.hid (EX5.out.below hb)
    replace BB := Lib.hid (BB.out.trans (hb.mono BB.out.size))
    clear hb EX4 ES3
    obtain ⟨mall, hmall⟩ : ∃ x, mergeO srt Lab Lc = x := ⟨_, rfl⟩
    rw [hmall] at T5 EX6 ⊢
    clear hmall
    obtain ⟨Lall, rall⟩ := mall
    simp only at T5 EX6 ⊢
    obtain ⟨n6, hn6⟩ : ∃ n, Lall.length = n := ⟨_, rfl⟩
    rw [hn6] at EX6 T5 ⊢
    have N6 := Lib.hid hn6
    clear hn6
    have W8 := Lib.hid (Below.refl w6.heap.size w6)
    have K1 := Lib.hid (fun W' (h : Below w6.heap.size w6 W') => ES1.out.below h)
    have K2 := Lib.hid (fun W' (h : Below w6.heap.size w6 W') => ES2.out.below h)
    have K5 := Lib.hid (fun W' (h : Below w6.heap.size w6 W') => EX5.out.below h)
    have K6 := Lib.hid (fun W' (h : Below w6.heap.size w6 W') => EX6.out.below h)
    have KB := Lib.hid (fun W' (h : Below w6.heap.size w6 W') => RB.out.below h)
    have K9 := Lib.hid (fun W' (h : Below w6.heap.size w6 W') => X9.out.below h)
    have KT := Lib.hid (fun W' (h : Below w6.heap.size w6 W') => TT.out.below h)
    have KW := Lib.hid (fun W' (h : Below w6.heap.size w6 W') => BB.out.trans (h.mono BB.out.size))
    clear W8 ES1 ES2 EX5 EX6 RB X9 TT BB LAB N4 N3 SL3 DS1 DS2 DS3 A1 A2 D11 D12 D13
    have T0 := Lib.hid (show (La.take 0).any (fun p => Lb.any (pq p)) = false from rfl)
    have T1 := Lib.hid (fun i (h : i < n1) => any_take La (fun p => Lb.any (pq p)) (j := i) (by rw [N1.out]; exact h))
    have TE := Lib.hid (show (La.take n1).any (fun p => Lb.any (pq p)) = tw La Lb by rw [List.take_of_length_le (by rw [N1.out]; exact Nat.le_refl _)]; rfl)
    obtain ⟨T, hT⟩ : ∃ T : Nat → Bool, (fun i => (La.take i).any (fun p => Lb.any (pq p))) = T := ⟨_, rfl⟩
    have hT' : ∀ i, (La.take i).any (fun p => Lb.any (pq p)) = T i := fun i => by rw [← hT]
    simp only [hT'] at T0 T1 TE
    clear hT hT'
    go_wp2_with fail
    go_loopw [16, 101] (fun tv iv wr => ∃ i : Nat, i ≤ n1 ∧ iv = .int .i64 i ∧ tv = .bool (T i) ∧ Lat w6 wr) (fun _ iv _ => n1 - (intOf iv).toNat)
    case atStart => exact ⟨0, by omega, rfl, by rw [T0.out], Below.refl _ _⟩
    case round =>
      obtain ⟨i, hi, rfl, rfl, hb⟩ := hrel
      have BL := Lib.hid hb
      clear hb
      by_cases hlt : i < n1
      · have TI := Lib.hid (T1.out i hlt)
        obtain ⟨b2, off2, e2, hb2, hl2, hc2⟩ := (K1.out _ BL.out.out).addr hlt
        obtain ⟨d0, d1, d2, d3, d4, d5⟩ := en_cells hc2 (by rw [hl2]; exact hlt)
        clear hc2 hl2 hb2
        subst e2
        obtain ⟨z, hz⟩ : ∃ z, La[i]! = z := ⟨_, rfl⟩
        rw [hz] at d0 d1 d2 d3 d4 d5 TI
        clear hz
        have U0 := Lib.hid (show (Lb.take 0).any (pq z) = false from rfl)
        have U1 := Lib.hid (fun j (h : j < n2) => any_take Lb (pq z) (j := j) (by rw [N2.out]; exact h))
        have UE := Lib.hid (show (Lb.take n2).any (pq z) = Lb.any (pq z) by rw [List.take_of_length_le (by rw [N2.out]; exact Nat.le_refl _)])
        obtain ⟨U, hU⟩ : ∃ U : Nat → Bool, (fun j => (Lb.take j).any (pq z)) = U := ⟨_, rfl⟩
        have hU' : ∀ j, (Lb.take j).any (pq z) = U j := fun j => by rw [← hU]
        simp only [hU'] at U0 U1 UE
        rw [← UE.out] at TI
        clear hU hU' UE
        unfold pq at U1
        obtain ⟨z0, ⟨z1, z2, z3⟩, z4, z5⟩ := z
        simp only at d0 d1 d2 d3 d4 d5 U1
        go_upto_region 22 with fail
        clear d0 d1 d2 d3 d4 d5
        have X18 := Lib.hid (Box.new wr #[.int .i64 z0, .int .i64 z1, .int .u32 z2, .int .u32 z3, .int .i64 z4, .bool z5] 48 rfl)
        have BI := Lib.hid (Lat.below BL.out (below1 wr (.cells #[.int .i64 z0, .int .i64 z1, .int .u32 z2, .int .u32 z3, .int .i64 z4, .bool z5] 48)))
        clear BL
        generalize wr.alloc (.cells #[.int .i64 z0, .int .i64 z1, .int .u32 z2, .int .u32 z3, .int .i64 z4, .bool z5] 48) = WI at *
        generalize wr.heap.size = p18 at *
        go_wp2_with fail
        go_loopw [16, 107] (fun tv iv wz => ∃ j : Nat, j ≤ n2 ∧ iv = .int .i64 j ∧ tv = .bool (T i || U j) ∧ Lat WI wz) (fun _ iv _ => n2 - (intOf iv).toNat)
        case atStart => exact ⟨0, by omega, rfl, by rw [U0.out, Bool.or_false], Below.refl _ _⟩
        case round =>
          obtain ⟨j, hj, rfl, rfl, hb⟩ := hrel
          have BL := Lib.hid hb
          clear hb
          by_cases hlt2 : j < n2
          · have UJ := Lib.hid (U1.out j hlt2)
            obtain ⟨b3, off3, e3, hb3, hl3, hc3⟩ := (K2.out _ (Lat.below BI.out BL.out.out).out).addr hlt2
            obtain ⟨d0, d1, d2, d3, d4, d5⟩ := en_cells hc3 (by rw [hl3]; exact hlt2)
            clear hc3 hl3 hb3
            subst e3
            obtain ⟨y, hy⟩ : ∃ y, Lb[j]! = y := ⟨_, rfl⟩
            rw [hy] at d0 d1 d2 d3 d4 d5 UJ
            clear hy
            obtain ⟨y0, ⟨y1, y2, y3⟩, y4, y5⟩ := y
            simp only at d0 d1 d2 d3 d4 d5 UJ
            go_upto_region 25 with fail
            clear d0 d1 d2 d3 d4 d5
            have X20 := Lib.hid (Box.new wr #[.int .i64 y0, .int .i64 y1, .int .u32 y2, .int .u32 y3, .int .i64 y4, .bool y5] 48 rfl)
            have X18' := Lib.hid ((X18.out.below BL.out.out).below (below1 wr (.cells #[.int .i64 y0, .int .i64 y1, .int .u32 y2, .int .u32 y3, .int .i64 y4, .bool y5] 48)))
            replace BL := Lib.hid (Lat.below BL.out (below1 wr (.cells #[.int .i64 y0, .int .i64 y1, .int .u32 y2, .int .u32 y3, .int .i64 y4, .bool y5] 48)))
            generalize wr.alloc (.cells #[.int .i64 y0, .int .i64 y1, .int .u32 y2, .int .u32 y3, .int .i64 y4, .bool y5] 48) = WJ at *
            generalize wr.heap.size = p20 at *
            have v0 := X20.out.cell 0
            have v1 := X20.out.cell 1
            have v2 := X20.out.cell 2
            have v3 := X20.out.cell 3
            have v4 := X20.out.cell 4
            have v5 := X20.out.cell 5
            simp at v0 v1 v2 v3 v4 v5
            have k0 := X18'.out.cell 0
            have k1 := X18'.out.cell 1
            have k2 := X18'.out.cell 2
            have k3 := X18'.out.cell 3
            have k4 := X18'.out.cell 4
            have k5 := X18'.out.cell 5
            simp at k0 k1 k2 k3 k4 k5
            have HG := Lib.hid (show (T i || U (j + 1)) = ((T i || U j) || (decide (z0 = y0) && (z5 && y5))) by rw [UJ.out, Bool.or_assoc])
            obtain ⟨tb, htb⟩ : ∃ b, (T i || U j) = b := ⟨_, rfl⟩
            rw [htb] at HG ⊢
            clear htb
            cases tb with
            | true =>
              go_wp2_with fail
              go_roundw
              case rel => exact ⟨j + 1, by omega, by have := SL2.out; rw [wrapIn ((j : Int) + 1) (by omega)]; go_num, by rw [HG.out]; rfl, BL.out⟩
              case measure => have := SL2.out; rw [wrapIn ((j : Int) + 1) (by omega)]; simp [intOf]; omega
            | false =>
              by_cases he : z0 = y0
              case neg =>
                have he' : (z0 == y0) = false := by rw [beq_eq_false_iff_ne]; exact he
                have HE := Lib.hid he
                clear he
                go_wp2_with fail
                go_roundw
                case rel => exact ⟨j + 1, by omega, by have := SL2.out; rw [wrapIn ((j : Int) + 1) (by omega)]; go_num, by rw [HG.out, decide_eq_false HE.out]; rfl, BL.out⟩
                case measure => have := SL2.out; rw [wrapIn ((j : Int) + 1) (by omega)]; simp [intOf]; omega
              have he' : (z0 == y0) = true := by rw [beq_iff_eq]; exact he
              have HE := Lib.hid he
              clear he
              cases z5 with
              | false =>
                go_wp2_with fail
                go_roundw
                case rel => exact ⟨j + 1, by omega, by have := SL2.out; rw [wrapIn ((j : Int) + 1) (by omega)]; go_num, by rw [HG.out, decide_eq_true HE.out]; rfl, BL.out⟩
                case measure => have := SL2.out; rw [wrapIn ((j : Int) + 1) (by omega)]; simp [intOf]; omega
              | true =>
                cases y5 with
                | false =>
                  go_wp2_with fail
                  go_roundw
                  case rel => exact ⟨j + 1, by omega, by have := SL2.out; rw [wrapIn ((j : Int) + 1) (by omega)]; go_num, by rw [HG.out, decide_eq_true HE.out]; rfl, BL.out⟩
                  case measure => have := SL2.out; rw [wrapIn ((j : Int) + 1) (by omega)]; simp [intOf]; omega
                | true =>
                  go_wp2_with fail
                  go_roundw
                  case rel => exact ⟨j + 1, by omega, by have := SL2.out; rw [wrapIn ((j : Int) + 1) (by omega)]; go_num, by rw [HG.out, decide_eq_true HE.out]; rfl, BL.out⟩
                  case measure => have := SL2.out; rw [wrapIn ((j : Int) + 1) (by omega)]; simp [intOf]; omega
          obtain rfl : j = n2 := by omega
          rw [← TI.out]
          go_wp2_with fail
          go_roundw
          case rel => exact ⟨i + 1, by omega, by have := SL1.out; rw [wrapIn ((i : Int) + 1) (by omega)]; go_num, rfl, Lat.below BI.out BL.out.out⟩
          case measure => have := SL1.out; rw [wrapIn ((i : Int) + 1) (by omega)]; simp [intOf]; omega
      obtain rfl : i = n1 := by omega
      rw [TE.out]
      clear T0 T1 TE
      have TT := Lib.hid (KT.out _ BL.out.out)
      have BB := Lib.hid (KW.out _ BL.out.out)
      have TW := Lib.hid (tw_iff La Lb)
      obtain ⟨tb, htb⟩ : ∃ b, tw La Lb = b := ⟨_, rfl⟩
      rw [htb] at TW ⊢
      clear htb
      cases tb with
      | true =>
        go_wp2_with fail
        refine (awake_any _ TT.out).mono ?_
        rintro e w99 ⟨rfl, hb⟩
        replace BB := Lib.hid (BB.out.trans (hb.mono BB.out.size))
        clear hb
        go_wp2_with fail
        go_ret
        exact ⟨rfl, BB.out⟩
      | false =>
      obtain ⟨g1, g2, g3, g4, g5, g6⟩ := T5.out (fun h => by have := TW.out.2 h; cases this)
      subst g1
      have G4 := Lib.hid g4
      have G6 := Lib.hid g6
      have N65 := Lib.hid g5
      clear g4 g5 g6 T5 TW
      have M7 := Lib.hid (fun W' (h : Below w6.heap.size w6 W') => MG.out _ _ La Lbc W' (K1.out _ h) (K5.out _ h) (by rw [N1.out]; exact SL1.out) (by rw [N5.out]; exact LBC.out))
      rw [g2, g3] at M7
      clear g2 g3
      go_wp2_with fail
      refine (M7.out _ BL.out.out).mono ?_
      rintro e w7 ⟨x7, rfl, hx, hb⟩
      have EX7 := Lib.hid hx
      obtain ⟨xa7, xc7, rfl, _⟩ := hx.form
      rw [N6.out] at EX7 ⊢
      clear hx
      replace BL := Lib.hid (Lat.below BL.out hb)
      clear hb M7 TT BB
      go_upto_region 30 with fail
      go_cut [148] (fun s wx => s = .bool false ∧ Lat w7 wx)
      case first =>
        by_cases h0 : n6 = 0
        · have h1 : ¬ (0 : Int) < (n6 : Int) := by omega
          have h2 : ¬ 0 < n6 := by omega
          have H0 := Lib.hid h0
          clear h0
          go_wp2_with fail
          go_meet
          case rel => exact ⟨rfl, Below.refl _ _⟩
        · have h1 : (0 : Int) < (n6 : Int) := by omega
          have h2 : 0 < n6 := by omega
          have CK := Lib.hid (show chkL Lall = 0 by have := G4.out; unfold chkP at this; rw [if_neg (by rw [N6.out]; exact h0)] at this; exact this)
          have C11 := Lib.hid (fun W' (h : Below w6.heap.size w6 W') => checkL_any _ Lall W' (K6.out _ h) (by rw [N6.out]; have := N65.out; omega))
          rw [CK.out] at C11
          clear h0
          go_wp2_with fail
          refine (C11.out _ BL.out.out).mono ?_
          rintro e w8 ⟨rfl, hb⟩
          have HB8 := Lib.hid hb
          clear hb
          go_wp2_with fail
          go_meet
          case rel => exact ⟨rfl, HB8.out⟩
      case rest =>
      obtain ⟨rfl, hb⟩ := hcut
      replace EX7 := Lib.hid (EX7.out.below hb.out)
      replace BL := Lib.hid (Lat.below BL.out hb.out)
      clear hb
      have AL := Lib.hid (fun v u W' h h' => alike_self v u Lall W' h h' (by rw [N6.out]; have := N65.out; omega))
      go_wp2_with fail
      refine (AL.out _ _ _ (K6.out _ BL.out.out) EX7.out).mono ?_
      rintro e w8 ⟨rfl, hb⟩
      replace BL := Lib.hid (Lat.below BL.out hb)
      clear hb AL EX7
      go_wp2_with fail
      go_loopw [159] (fun iv wr => ∃ k : Nat, k ≤ n6 ∧ iv = .int .i64 k ∧ Lat w6 wr) (fun iv _ => n6 - (intOf iv).toNat)
      case atStart => exact ⟨0, by omega, rfl, BL.out⟩
      case round =>
        obtain ⟨k, hk, rfl, hb⟩ := hrel
        clear BL
        have BL := Lib.hid hb
        clear hb
        by_cases hlt : k < n6
        · obtain ⟨b2, off2, e2, hb2, hl2, hc2⟩ := (K6.out _ BL.out.out).addr hlt
          obtain ⟨d0, d1, d2, d3, d4, d5⟩ := en_cells hc2 (by rw [hl2]; exact hlt)
          clear hc2 hl2 hb2
          subst e2
          have GP := Lib.hid (G6.out _ (mem_at (L := Lall) (k := k) (by rw [N6.out]; exact hlt)))
          obtain ⟨z, hz⟩ : ∃ z, Lall[k]! = z := ⟨_, rfl⟩
          rw [hz] at d0 d1 d2 d3 d4 d5 GP
          clear hz
          obtain ⟨z0, zw, z4, z5⟩ := z
          obtain ⟨⟨r1, r2⟩, r3, r4, r5⟩ := GP.out
          simp only at r1 r2 r3 r4 r5
          obtain ⟨a, rfl⟩ : ∃ a : Nat, z0 = a := ⟨z0.toNat, by omega⟩
          have a6 : a < 6 := by omega
          rw [Int.toNat_natCast] at r3 r4 r5
          subst r3
          obtain ⟨y1, y2, y3⟩ := RW.out a a6
          have Y3 := arr_word A3.out a6
          obtain ⟨u, hu⟩ : ∃ x, V3[a]! = x := ⟨_, rfl⟩
          rw [hu] at Y3 r4 r5
          clear hu
          obtain ⟨zw, hzw⟩ : ∃ x, V0[a]! = x := ⟨_, rfl⟩
          rw [hzw] at d0 d1 d2 d3 d4 d5 y1 y2 y3 r5
          clear hzw GP
          obtain ⟨z1, z2, z3⟩ := zw
          obtain ⟨u0, u1, u2⟩ := u
          simp only at d0 d1 d2 d3 d4 d5 y1 y2 y3 r4 r5 Y3
          subst r4
          have R5 := Lib.hid r5
          clear r5 r1 r2
          go_upto_region 37 with fail
          clear d0 d1 d2 d3 d4 d5
          have X24 := Lib.hid (Box.new wr #[.int .i64 (a : Nat), .int .i64 z1, .int .u32 z2, .int .u32 z3, .int .i64 z4, .bool z5] 48 rfl)
          replace BL := Lib.hid (Lat.below BL.out (below1 wr (.cells #[.int .i64 (a : Nat), .int .i64 z1, .int .u32 z2, .int .u32 z3, .int .i64 z4, .bool z5] 48)))
          generalize wr.alloc (.cells #[.int .i64 (a : Nat), .int .i64 z1, .int .u32 z2, .int .u32 z3, .int .i64 z4, .bool z5] 48) = WK at *
          generalize wr.heap.size = p24 at *
          have RB := Lib.hid (KB.out _ BL.out.out)
          have X9 := Lib.hid (K9.out _ BL.out.out)
          have c0 : WK.cell? ⟨q, a * 3, none⟩ = some (.int .i64 z1) := (RB.out.cell (a * 3)).trans (by rw [List.getElem?_toArray]; exact y1)
          have c1 : WK.cell? ⟨q, a * 3 + 1, none⟩ = some (.int .u32 z2) := (RB.out.cell (a * 3 + 1)).trans (by rw [List.getElem?_toArray]; exact y2)
          have c2 : WK.cell? ⟨q, a * 3 + 2, none⟩ = some (.int .u32 z3) := (RB.out.cell (a * 3 + 2)).trans (by rw [List.getElem?_toArray]; exact y3)
          have e0 : WK.cell? ⟨p9, a * 3, none⟩ = some (.int .i64 z4) := (X9.out.cell (a * 3)).trans Y3.1
          have e1 : WK.cell? ⟨p9, a * 3 + 1, none⟩ = some (.int .u32 u1) := (X9.out.cell (a * 3 + 1)).trans Y3.2.1
          clear y1 y2 y3 Y3
          have v0 := X24.out.cell 0
          have v1 := X24.out.cell 1
          have v2 := X24.out.cell 2
          have v3 := X24.out.cell 3
          have v4 := X24.out.cell 4
          have v5 := X24.out.cell 5
          simp at v0 v1 v2 v3 v4 v5
          have qN : ∀ w, (binOp .neq 39 (.agg #[.int .i64 z1, .int .u32 z2, .int .u32 z3]) (.agg #[.int .i64 z1, .int .u32 z2, .int .u32 z3])).run Tryd.prog w = .ok (.bool false) w := fun w => by rw [neqW, eqW_dec, decide_eq_true rfl]; rfl
          have gW := guardW
          have m5 : (a : Int) < 6 := by omega
          have m6 : ¬ 6 ≤ a := by omega
          have qz : (z4 != z4) = false := by rw [bne_eq_false_iff_eq]
          cases z5 with
          | false =>
            go_quiet (fail)
            go_wp2
            go_roundw
            case rel => exact ⟨k + 1, by omega, by have := N65.out; rw [wrapIn ((k : Int) + 1) (by omega)]; go_num, below_drewN BL.out.out _⟩
            case measure => have := N65.out; rw [wrapIn ((k : Int) + 1) (by omega)]; simp [intOf]; omega
          | true =>
            have h5 : z2 < u1 := R5.out rfl
            have h6 : decide (z2 < u1) = true := by rw [decide_eq_true_eq]; exact h5
            go_quiet (fail)
            go_wp2
            go_roundw
            case rel => exact ⟨k + 1, by omega, by have := N65.out; rw [wrapIn ((k : Int) + 1) (by omega)]; go_num, below_drewN BL.out.out _⟩
            case measure => have := N65.out; rw [wrapIn ((k : Int) + 1) (by omega)]; simp [intOf]; omega
        obtain rfl : k = n6 := by omega
        have TT := Lib.hid (KT.out _ BL.out.out)
        have BB := Lib.hid (KW.out _ BL.out.out)
        go_wp2_with fail
        refine (awake_any _ TT.out).mono ?_
        rintro e w99 ⟨rfl, hb⟩
        replace BB := Lib.hid (BB.out.trans (hb.mono BB.out.size))
        clear hb
        go_wp2_with fail
        go_ret
        exact ⟨rfl, BB.out⟩
end Go.Proofs.YtjphhfgomlchoaaDoor
