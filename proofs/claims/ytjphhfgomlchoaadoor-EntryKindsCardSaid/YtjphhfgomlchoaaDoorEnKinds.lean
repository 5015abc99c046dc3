/- The walk through EntryKinds. -/
import Derived.Test.YtjphhfgomlchoaaDoorEnRCheck
namespace Go.Proofs.YtjphhfgomlchoaaDoor
open Go.ChangeShapes Go.WideShapes Go.ChangeAt Go.RowKit Go.Maps
def rotK (L : List En) (t k : Nat) : List En := (List.range k).map fun i => L[(i + t) % L.length]!
theorem rotK_succ (L : List En) (t k : Nat) : rotK L t (k + 1) = rotK L t k ++ [L[(k + t) % L.length]!] := by
  unfold rotK
  rw [List.range_succ, List.map_append]; rfl
theorem rotK_len (L : List En) (t k : Nat) : (rotK L t k).length = k := by unfold rotK; simp
theorem rotK_all (L : List En) (t : Nat) (h : 0 < L.length) : rotK L t L.length = L.drop (t % L.length) ++ L.take (t % L.length) := by
  have hm : t % L.length < L.length := Nat.mod_lt _ h
  obtain ⟨m, hmm⟩ : ∃ m, t % L.length = m := ⟨_, rfl⟩
  rw [hmm] at hm ⊢
  apply List.ext_getElem (by rw [rotK_len]; simp; omega)
  intro i h1 h2
  rw [rotK_len] at h1
  have e0 : (rotK L t L.length)[i]'(by rw [rotK_len]; exact h1) = L[(i + t) % L.length]! := by simp [rotK]
  refine e0.trans ?_
  have e : (i + t) % L.length = if i < L.length - m then m + i else i - (L.length - m) := by
    rw [Nat.add_mod, hmm, Nat.mod_eq_of_lt h1]
    split
    · rw [Nat.mod_eq_of_lt (by omega)]; omega
    · rw [Nat.mod_eq_sub_mod (by omega), Nat.mod_eq_of_lt (by omega)]; omega
  rw [e]
  by_cases hi : i < L.length - m
  · rw [if_pos hi, getElem!_pos L (m + i) (by omega), List.getElem_append_left (by simp; omega)]
    simp
  · rw [if_neg hi, getElem!_pos L (i - (L.length - m)) (by omega), List.getElem_append_right (by simp; omega)]
    simp
theorem wrN_app (A B : List En) : wrN (A ++ B) = wrN A + wrN B := by unfold wrN; rw [List.filter_append, List.length_append]
theorem wrN_rot (L : List En) (t : Nat) : wrN (rotK L t L.length) = wrN L := by
  rcases Nat.eq_zero_or_pos L.length with h | h
  · obtain rfl := List.length_eq_zero_iff.1 h; rfl
  · rw [rotK_all L t h, wrN_app, Nat.add_comm, ← wrN_app, List.take_append_drop]
theorem kindL_rot (L : List En) (t : Nat) : kindL (rotK L t L.length) = kindL L := by
  unfold kindL
  rw [wrN_rot, rotK_len]
theorem tmod_nn (k t n : Nat) : ((k : Int) + (t : Int)).tmod (n : Int) = (((k + t) % n : Nat) : Int) := by
  rw [show (k : Int) + (t : Int) = ((k + t : Nat) : Int) by omega]; rfl
set_option maxRecDepth 100000 in
set_option maxHeartbeats 3200000 in
theorem kinds_walk (v : Value) (L : List En) (ti : Int) (w : World) (hv : ES w v L) (_ : ∀ e ∈ L, OkE e) (_ : L.length ≤ maxLen) (ht : Tab w) (t0 : 0 ≤ ti) (t1 : ti ≤ 255) : Calls Tryd.prog 8 #[v, .int .u8 ti] w (Good2 w) := by
  obtain ⟨t, rfl⟩ : ∃ t : Nat, ti = t := ⟨ti.toNat, by omega⟩
  have TT := Lib.hid ht
  have HV := Lib.hid hv
  have C22 := Lib.hid (fun W h => writes_any v L W h)
  have C23 := Lib.hid (fun W h => kindL_any v L W h)
  have C24 := Lib.hid (fun W h => rkindL_any v L W h)
  have C25 := Lib.hid (fun W h => rwrites_any v L W h)
  obtain ⟨a1, cp, rfl, hcap⟩ := hv.form
  clear hv ht
  have WR := Lib.hid (wrN_rot L t)
  have KR := Lib.hid (kindL_rot L t)
  obtain ⟨n, hn⟩ : ∃ n, L.length = n := ⟨_, rfl⟩
  rw [hn] at HV C22 C23 C24 C25 WR KR hcap ⊢
  have HN := Lib.hid hn
  clear hn
  by_cases hbig : 60 < n
  · have hb1 : (60 : Int) < n := by omega
    go_enter Tryd.func8, Tryd.ntmps8
    go_wp2_with fail
    refine (awake_any w TT.out).mono ?_
    rintro e w1 ⟨rfl, hb⟩
    have BB := Lib.hid hb
    clear hb
    go_wp2_with fail
    go_ret
    exact ⟨rfl, BB.out⟩
  · have hb1 : ¬ (60 : Int) < n := by omega
    go_enter Tryd.func8, Tryd.ntmps8
    go_wp2_with fail
    go_loopw [5, 14] (fun sv iv wr => ∃ k : Nat, k ≤ n ∧ iv = .int .i64 k ∧ RowK enE 48 w.heap.size wr sv (rotK L t k) ∧ Below w.heap.size w wr) (fun _ iv _ => n - (intOf iv).toNat)
    case atStart => exact ⟨0, by omega, rfl, RowK.nil _ _ _, Below.refl _ _⟩
    case round =>
      obtain ⟨k, hk, rfl, hr, hb⟩ := hrel
      have BB := Lib.hid hb
      have R := Lib.hid hr
      clear hb hr
      by_cases hlt : k < n
      · have hmod := tmod_nn k t n
        have RS := Lib.hid (rotK_succ L t k)
        have RL := Lib.hid (rotK_len L t k)
        rw [HN.out] at RS
        have hj : (k + t) % n < n := Nat.mod_lt _ (by omega)
        obtain ⟨j, hjj⟩ : ∃ j, (k + t) % n = j := ⟨_, rfl⟩
        rw [hjj] at hmod RS hj
        clear hjj
        obtain ⟨b, off, rfl, hbl, hln, hc⟩ := HV.out.addr hj
        obtain ⟨c0, c1, c2, c3, c4, c5⟩ := en_cells hc (by rw [hln]; exact hj)
        rw [← BB.out.cell (p := ⟨b, _, none⟩) hbl] at c0 c1 c2 c3 c4 c5
        clear hc hln
        obtain ⟨y, hy⟩ : ∃ y, L[j]! = y := ⟨_, rfl⟩
        rw [hy] at c0 c1 c2 c3 c4 c5 RS
        clear hy
        obtain ⟨y0, ⟨y1, y2, y3⟩, y4, y5⟩ := y
        simp only at c0 c1 c2 c3 c4 c5 RS
        obtain ⟨U, hU⟩ : ∃ U, rotK L t k = U := ⟨_, rfl⟩
        rw [hU] at RS RL R
        clear hU
        obtain ⟨ra, rc, e6, _⟩ := R.out.form
        rw [RL.out] at e6
        subst e6
        have E3 := Lib.hid (SK.ofBox (E := enE) (Box.new wr #[.int .i64 y0, .int .i64 y1, .int .u32 y2, .int .u32 y3, .int .i64 y4, .bool y5] 48 rfl) (L := [(y0, (y1, y2, y3), y4, y5)]) (n := 1) (cap := 1) rfl rfl (Nat.le_refl _))
        have MA := Lib.hid (R.out.below (below1 wr (.cells #[.int .i64 y0, .int .i64 y1, .int .u32 y2, .int .u32 y3, .int .i64 y4, .bool y5] 48)))
        have BA := Lib.hid (BB.out.alloc BB.out.size (.cells #[.int .i64 y0, .int .i64 y1, .int .u32 y2, .int .u32 y3, .int .i64 y4, .bool y5] 48))
        have hw1 : IntKind.i64.wrap (j : Int) = (j : Int) := IntWalk.i64_in _ (by omega)
        have hne : ((n : Int) == 0) = false := by rw [beq_eq_false_iff_ne]; omega
        have j0 : (0 : Int) ≤ (j : Int) := by omega
        have j1 : (j : Int) < (n : Int) := by omega
        go_wp2_with (first
          | (at_builtin; refine wpList_appK (w0 := w) Tryd.underlying22 infoEn rfl (by decide) _ rfl (.tmp 17) (.tmp 28) rfl rfl BA.out MA.out rfl E3.out (by simp; rw [RL.out]; omega) ?_; intro v3 w3 r3 b3 g3; obtain ⟨a6, c6, e6⟩ : ∃ a c, v3 = .slice a (k + 1) c := (by obtain ⟨a, c, h, _⟩ := r3.form; exact ⟨a, c, by rw [h, List.length_append, RL.out]; rfl⟩); subst e6; have R3 := Lib.hid r3; have B3 := Lib.hid b3; clear r3 b3 g3)
          | fail)
        go_roundw
        case rel => exact ⟨k + 1, by omega, by go_num, by rw [RS.out]; exact R3.out, B3.out⟩
        case measure => simp [intOf]; omega
      · obtain rfl : k = n := by omega
        have O := Lib.hid R.out.sk
        have RL := Lib.hid (rotK_len L t k)
        obtain ⟨ra, rc, e6, _⟩ := O.out.form
        rw [RL.out] at e6
        subst e6
        have hl : L.length ≤ 1000 := by rw [HN.out]; omega
        have hl2 : (rotK L t k).length ≤ 1000 := by rw [RL.out]; omega
        have D22 := Lib.hid (fun W h => writes_any (.slice ra k rc) (rotK L t k) W h hl2)
        have D23 := Lib.hid (fun W h => kindL_any (.slice ra k rc) (rotK L t k) W h hl2)
        rw [WR.out] at D22
        rw [KR.out] at D23
        obtain ⟨m, hm⟩ : ∃ m, wrN L = m := ⟨_, rfl⟩
        obtain ⟨q, hq⟩ : ∃ m, kindL L = m := ⟨_, rfl⟩
        rw [hm] at C22 C25 D22
        rw [hq] at C23 C24 D23
        clear hm hq WR KR R
        have hqq : (q == q) = true := by simp
        have hmm : ((m : Int) == (m : Int)) = true := by simp
        go_wp2_with fail
        refine (C22.out _ (HV.out.below BB.out) (by omega)).mono ?_
        rintro e w9 ⟨rfl, hb⟩
        replace O := Lib.hid (O.out.below hb)
        replace BB := Lib.hid (BB.out.trans (hb.mono BB.out.size))
        clear hb
        go_wp2_with fail
        refine (C23.out _ (HV.out.below BB.out) (by omega)).mono ?_
        rintro e w9 ⟨rfl, hb⟩
        replace O := Lib.hid (O.out.below hb)
        replace BB := Lib.hid (BB.out.trans (hb.mono BB.out.size))
        clear hb
        go_wp2_with fail
        refine (C24.out _ (HV.out.below BB.out) (by omega)).mono ?_
        rintro e w9 ⟨rfl, hb⟩
        replace O := Lib.hid (O.out.below hb)
        replace BB := Lib.hid (BB.out.trans (hb.mono BB.out.size))
        clear hb
        go_wp2_with fail
        refine (C25.out _ (HV.out.below BB.out) (by omega)).mono ?_
        rintro e w9 ⟨rfl, hb⟩
        replace O := Lib.hid (O.out.below hb)
        replace BB := Lib.hid (BB.out.trans (hb.mono BB.out.size))
        clear hb
        go_wp2_with fail
        refine (D23.out _ O.out).mono ?_
        rintro e w9 ⟨rfl, hb⟩
        replace O := Lib.hid (O.out.below hb)
        replace BB := Lib.hid (BB.out.trans (hb.mono BB.out.size))
        clear hb
        go_wp2_with fail
        refine (C24.out _ (HV.out.below BB.out) (by omega)).mono ?_
        rintro e w9 ⟨rfl, hb⟩
        replace O := Lib.hid (O.out.below hb)
        replace BB := Lib.hid (BB.out.trans (hb.mono BB.out.size))
        clear hb
        go_wp2_with fail
        refine (D22.out _ O.out).mono ?_
        rintro e w9 ⟨rfl, hb⟩
        replace O := Lib.hid (O.out.below hb)
        replace BB := Lib.hid (BB.out.trans (hb.mono BB.out.size))
        clear hb
        go_wp2_with fail
        refine (awake_any _ (TT.out.below BB.out)).mono ?_
        rintro e w10 ⟨rfl, hb⟩
        replace BB := Lib.hid (BB.out.trans (hb.mono BB.out.size))
        clear hb
        go_wp2_with fail
        go_ret
        exact ⟨rfl, BB.out⟩
end Go.Proofs.YtjphhfgomlchoaaDoor
