/- The walk through LeakCloses. -/
import Derived.Test.YtgejijlhgimgaaaLkJoins
namespace Go.Proofs.Ytgejijlhgimgaaa
open Go.ChangeShapes Go.WideShapes Go.ChangeAt Go.RowKit Go.Maps
theorem rch_again {X roots : List Int} {N : List (List Int)} (h : ∀ x, x ∈ X ↔ Rch roots N x) (x : Int) : Rch X N x ↔ x ∈ X :=
  ⟨fun hr => hr.least (P := fun x => x ∈ X) (fun _ hx _ _ => hx) (fun _ hy _ _ _ hx a b => (h _).2 (.step ((h _).1 hy) hx a b)), fun hx => .root hx ((h x).1 hx).range.1 ((h x).1 hx).range.2⟩
theorem inc_lt {X : List Int} (h : Inc X) {j : Nat} (hj : j + 1 < X.length) : X.getD j 0 < X.getD (j + 1) 0 := by
  have := List.pairwise_iff_getElem.1 h j (j + 1) (by omega) hj (by omega)
  rw [List.getD, List.getD, List.getElem?_eq_getElem (by omega), List.getElem?_eq_getElem hj]
  exact this
theorem rch_from {X roots : List Int} {N : List (List Int)} (h : ∀ x, x ∈ X ↔ Rch roots N x) {x : Int} (hx : x ∈ X) (h1 : x ∉ roots) (h2 : ∀ j, j < X.length → x ∉ N.getD (X.getD j 0).toNat []) : False := by
  have hr := (h x).1 hx
  cases hr with
  | root h3 _ _ => exact h1 h3
  | step hy h3 _ _ =>
    obtain ⟨j, hj, e⟩ := mem_getD ((h _).2 hy)
    exact h2 j hj (by rw [e]; exact h3)
theorem IS.addr {w : World} {a : Option Addr} {n c k : Nat} {L : List Int} (h : IS w (.slice a n c) L) (hk : k < n) : ∃ b off, a = some ⟨b, off, none⟩ ∧ b < w.heap.size ∧ ∀ i, i < n → w.cell? ⟨b, off + i, none⟩ = some (.int .i64 (L.getD i 0)) := by
  obtain ⟨a', c', e, _, h⟩ := h
  injection e with e1 e2 e3
  subst e1 e2 e3
  rcases h with h | ⟨b, off, h1, h2, h3⟩
  · subst h; simp at hk
  · exact ⟨b, off, h1, h2, h3⟩
set_option maxRecDepth 100000 in
set_option maxHeartbeats 6400000 in
theorem closes_walk (v1 v2 u : Value) (A B : List Int) (N : List (List Int)) (w : World) (hv1 : IS w v1 A) (hv2 : IS w v2 B) (hu : NS w u N) :
    Calls Try.prog 4 #[v1, v2, u] w (Good w) := by
  have HA := Lib.hid hv1
  have HB := Lib.hid hv2
  have HU := Lib.hid hu
  obtain ⟨a1, cap1, rfl⟩ := hv1.form
  obtain ⟨a2, cap2, rfl⟩ := hv2.form
  obtain ⟨a3, cap3, rfl⟩ := hu.form
  clear hv1 hv2 hu
  obtain ⟨m, hm⟩ : ∃ m, B.length = m := ⟨_, rfl⟩
  rw [hm] at HB ⊢
  have HM := Lib.hid hm
  clear hm
  have GR := Lib.hid (great_any _ _ A N w HA.out HU.out)
  by_cases h24 : 24 < m
  · go_enter Try.func4, Try.ntmps4
    go_wp2_with fail
    refine GR.out.mono ?_
    rintro e w' ⟨r, rfl, rfl, hr⟩
    clear hr GR
    cases r with
    | true =>
      go_wp2_with fail
      refine (awake_any w).mono ?_
      rintro e w1 ⟨rfl, hb⟩
      have BB := Lib.hid hb
      clear hb
      go_wp2_with fail
      go_ret
      exact ⟨rfl, BB.out⟩
    | false =>
      go_wp2_with fail
      refine (awake_any w).mono ?_
      rintro e w1 ⟨rfl, hb⟩
      have BB := Lib.hid hb
      clear hb
      go_wp2_with fail
      go_ret
      exact ⟨rfl, BB.out⟩
  go_enter Try.func4, Try.ntmps4
  go_wp2_with fail
  refine GR.out.mono ?_
  rintro e w' ⟨r, rfl, rfl, hr⟩
  clear GR
  cases r with
  | true =>
    clear hr
    go_wp2_with fail
    refine (awake_any w).mono ?_
    rintro e w1 ⟨rfl, hb⟩
    have BB := Lib.hid hb
    clear hb
    go_wp2_with fail
    go_ret
    exact ⟨rfl, BB.out⟩
  | false =>
    obtain ⟨h1, h2, h3⟩ := hr rfl
    have H3 := Lib.hid h3
    clear hr h3
    have h4 : N.length ≤ 1000 := by omega
    have h5 : A.length ≤ 1000 := by omega
    go_wp2_with fail
    refine (reach_any _ _ A N w h5 h4 HA.out HU.out (fun i => by have := H3.out i; omega)).mono ?_
    rintro e w2 ⟨z1, X, rfl, r1, n1, m1, l1, b1⟩
    obtain ⟨a4, c4, rfl, -⟩ := r1.form
    have IX := Lib.hid r1.is
    have MX := Lib.hid m1
    have NX := Lib.hid n1
    have B1 := Lib.hid b1
    clear r1 n1 m1 b1
    have lA : A.length ≤ 24 := h2
    have lB : B.length ≤ 24 := by rw [HM.out]; omega
    have lX : X.length ≤ 24 := by omega
    have A1 := Lib.hid (below1 w2 (.cells #[] 3))
    have E1 := Lib.hid (Row.ofBox (B := w2.heap.size) (Box.new w2 #[] 3 rfl) (Nat.le_refl _) (L := []) rfl rfl (by simp))
    have S1 := Lib.hid (HA.out.below (B1.out.trans (A1.out.mono B1.out.size)))
    go_wp2_with (first
      | (at_builtin; refine wpList_app' _ rfl (.tmp 26) (.tmp 27) rfl rfl A1.out E1.out rfl S1.out (by simp <;> omega) ?_; intro v3 w3 r3 b3 g3; obtain ⟨a6, c6, e6⟩ : ∃ a c, v3 = .slice a A.length c := (by obtain ⟨a, c, h, _⟩ := r3.form; exact ⟨a, c, h⟩); subst e6; have R3 := Lib.hid r3; have B3 := Lib.hid b3; have S3 := Lib.hid (HB.out.below (B1.out.trans (b3.mono B1.out.size))); clear r3 b3 g3)
      | (at_builtin; refine wpList_app' _ rfl (.tmp 28) (.tmp 29) rfl rfl B3.out R3.out rfl S3.out (by simp <;> omega) ?_; intro v4 w4 r4 b4 g4; obtain ⟨a7, c7, e7⟩ : ∃ a c, v4 = .slice a (A.length + B.length) c := (by obtain ⟨a, c, h, _⟩ := r4.form; exact ⟨a, c, by rw [h]; simp⟩); subst e7; have R4 := Lib.hid r4; have B4 := Lib.hid b4; clear r4 b4 g4)
      | fail)
    replace IX := Lib.hid (IX.out.below B4.out)
    replace B1 := Lib.hid (B1.out.trans (B4.out.mono B1.out.size))
    refine (reach_any _ _ ([] ++ A ++ B) N w4 (by simp; omega) h4 R4.out.is (HU.out.below B1.out) (fun i => by have := H3.out i; omega)).mono ?_
    rintro e w5 ⟨z1, L, rfl, r1, n1, m1, l5, b1⟩
    obtain ⟨a8, c8, rfl, -⟩ := r1.form
    have IL := Lib.hid r1.is
    have ML : Hid (∀ x, x ∈ L ↔ Rch A N x ∨ Rch B N x) := Lib.hid (fun x => by rw [m1 x, List.nil_append, Rch.app])
    replace IX := Lib.hid (IX.out.below b1)
    replace B1 := Lib.hid (B1.out.trans (b1.mono B1.out.size))
    have OX := Lib.hid (ok_rch MX.out h4)
    have OL := Lib.hid (ok_rch m1 h4)
    have lL : L.length ≤ 24 := by omega
    clear r1 n1 m1 b1 R4 B4 R3 B3 S3 S1 E1 A1
    go_wp2_with fail
    refine (reach_any _ _ X N w5 (by omega) h4 IX.out (HU.out.below B1.out) (fun i => by have := H3.out i; omega)).mono ?_
    rintro e w6 ⟨z1, Y, rfl, r1, n1, m1, l6, b1⟩
    obtain ⟨a9, c9, rfl, -⟩ := r1.form
    have IY := Lib.hid r1.is
    have EQ : Hid (decide (Y = X) = true) := Lib.hid (decide_eq_true (n1.ext NX.out (fun x => by rw [m1 x, rch_again MX.out x])))
    replace IX := Lib.hid (IX.out.below b1)
    replace IL := Lib.hid (IL.out.below b1)
    replace B1 := Lib.hid (B1.out.trans (b1.mono B1.out.size))
    clear r1 n1 m1 b1
    go_wp2_with fail
    refine (same_any _ _ Y X w6 (by omega) IY.out IX.out).mono ?_
    rintro e w7 ⟨rfl, b1⟩
    rw [EQ.out]
    replace IX := Lib.hid (IX.out.below b1)
    replace IL := Lib.hid (IL.out.below b1)
    replace B1 := Lib.hid (B1.out.trans (b1.mono B1.out.size))
    clear b1 EQ IY
    go_wp2_with fail
    refine (wild_any _ _ X L w7 (by omega) (by omega) IX.out IL.out OX.out OL.out).mono ?_
    rintro e w8 ⟨z1, Z, rfl, r1, -, m1, -, b1⟩
    obtain rfl : Z = [] := nil_of m1 (fun x h => h.2 ((ML.out x).2 (.inl ((MX.out x).1 h.1))))
    obtain ⟨a13, c13, rfl, -⟩ := r1.form
    replace IX := Lib.hid (IX.out.below b1)
    replace B1 := Lib.hid (B1.out.trans (b1.mono B1.out.size))
    clear b1 r1 m1 IL ML OL OX
    have hneq : ((0 : Int) != 0) = false := rfl
    go_wp2_with fail
    clear hneq
    obtain ⟨p, hp⟩ : ∃ p, X.length = p := ⟨_, rfl⟩
    rw [hp] at IX lX
    try rw [hp]
    have HP := Lib.hid hp
    clear hp
    go_loopw [9] (fun iv wr => ∃ i : Nat, i ≤ p ∧ iv = .int .i64 i ∧ Below w8.heap.size w8 wr ∧ w8 = wr) (fun iv _ => p - (intOf iv).toNat)
    case atStart => exact ⟨0, by omega, rfl, Below.refl _ _, rfl⟩
    case round =>
      obtain ⟨i, hi, rfl, -, rfl⟩ := hrel
      by_cases hlt : i < p
      · obtain ⟨b, off, e, hbl, hc⟩ := IX.out.addr hlt
        subst e
        have HC := Lib.hid hc
        have c0 := hc i hlt
        have hxm := Lib.hid (getD_mem (L := X) (k := i) (by rw [HP.out]; exact hlt))
        have HI := Lib.hid (fun j => inc_lt NX.out (j := j))
        clear hc
        rcases i with _ | q
        · simp only [Nat.add_zero] at c0
          obtain ⟨x, hx⟩ : ∃ y, X.getD 0 0 = y := ⟨_, rfl⟩
          rw [hx] at c0 hxm
          clear hx
          obtain ⟨hx0, hxN⟩ := ((MX.out x).1 hxm.out).range
          have HAi := Lib.hid (in_any _ A x w8 (by omega) (HA.out.below B1.out))
          have HQ := Lib.hid (inL_iff A x)
          obtain ⟨rr, hrr⟩ : ∃ r, inL A x = r := ⟨_, rfl⟩
          rw [hrr] at HAi HQ
          have HRR : Hid (rr = false → x ∉ A) := Lib.hid (fun h hm => by have := HQ.out.2 hm; rw [h] at this; cases this)
          clear hrr HQ
          go_wp2_with fail
          refine HAi.out.mono ?_
          rintro e w' ⟨rfl, rfl⟩
          clear HAi
          go_wp2_with fail
          go_loopw [11, 12] (fun fv kv wr => ∃ k : Nat, ∃ f : Bool, k ≤ p ∧ kv = .int .i64 k ∧ fv = .bool f ∧ (f = false → x ∉ A ∧ ∀ j, j < k → x ∉ N.getD (X.getD j 0).toNat []) ∧ Below w8.heap.size w8 wr ∧ w8 = wr) (fun _ kv _ => p - (intOf kv).toNat)
          case atStart => exact ⟨0, rr, by omega, rfl, rfl, fun h => ⟨HRR.out h, fun j hj => by omega⟩, Below.refl _ _, rfl⟩
          case round =>
            obtain ⟨k, f, hk, rfl, rfl, hf, -, rfl⟩ := hrel
            have HF := Lib.hid hf
            clear hf
            by_cases hlt2 : k < p
            · have d0 := HC.out k hlt2
              have hym := Lib.hid (getD_mem (L := X) (k := k) (by rw [HP.out]; exact hlt2))
              obtain ⟨z, hz⟩ : ∃ y, X.getD k 0 = y := ⟨_, rfl⟩
              rw [hz] at d0 hym
              have HZ := Lib.hid hz
              clear hz
              cases f with
              | true =>
                go_wp2_with fail
                go_roundw
                case rel => exact ⟨k + 1, true, by omega, by go_num, rfl, (fun h => by cases h), Below.refl _ _, (by first | exact rfl | trivial)⟩
                case measure => simp [intOf]; omega
              | false =>
                have HF1 := Lib.hid (HF.out rfl)
                clear HF
                have hzr := ((MX.out z).1 hym.out).range
                obtain ⟨z0, rfl⟩ := Int.eq_ofNat_of_zero_le hzr.1
                have hzn : z0 < N.length := by have := hzr.2; omega
                clear hzr
                rcases HU.out with ⟨a', cap', e, h2⟩
                injection e with e1 e2 e3
                subst e1 e3
                clear e2
                rcases h2 with h2 | ⟨b3, off3, e, hbl3, hc3⟩
                · rw [h2] at hzn; simp at hzn
                subst e
                obtain ⟨u3, hu1, hu2⟩ := hc3 z0 hzn
                clear hc3
                have HU2 := Lib.hid hu2
                obtain ⟨au, cu, e, _⟩ := hu2
                obtain ⟨lu, hlu⟩ : ∃ l, (N.getD z0 []).length = l := ⟨_, rfl⟩
                rw [hlu] at e
                subst e
                rw [← B1.out.cell (p := ⟨b3, off3 + z0, none⟩) hbl3] at hu1
                have HIn := Lib.hid (in_any _ (N.getD z0 []) x w8 (by have := H3.out z0; omega) (HU2.out.below B1.out))
                have HQ := Lib.hid (inL_iff (N.getD z0 []) x)
                obtain ⟨r2, hr2⟩ : ∃ r, inL (N.getD z0 []) x = r := ⟨_, rfl⟩
                rw [hr2] at HIn HQ
                have HR2 : Hid (r2 = false → x ∉ N.getD z0 []) := Lib.hid (fun h hm => by have := HQ.out.2 hm; rw [h] at this; cases this)
                clear hr2 HQ hlu
                go_wp2_with fail
                refine HIn.out.mono ?_
                rintro e w' ⟨rfl, rfl⟩
                clear HIn
                go_wp2_with fail
                go_roundw
                case rel =>
                  refine ⟨k + 1, r2, by omega, by go_num, rfl, fun h => ⟨HF1.out.1, fun j hj => ?_⟩, Below.refl _ _, (by first | exact rfl | trivial)⟩
                  by_cases e : j = k
                  · subst e; rw [HZ.out]; exact HR2.out h
                  · exact HF1.out.2 j (by omega)
                case measure => simp [intOf]; omega
            · obtain rfl : k = p := by omega
              cases f with
              | true =>
                go_wp2_with fail
                go_roundw
                case rel => exact ⟨0 + 1, by omega, by go_num, Below.refl _ _, (by first | exact rfl | trivial)⟩
                case measure => simp [intOf] <;> omega
              | false =>
                exact absurd (HF.out rfl) (fun h => rch_from MX.out hxm.out h.1 (by rw [HP.out]; exact h.2))
        · have c1 := HC.out q (by omega)
          have hyx := HI.out q (by rw [HP.out]; exact hlt)
          obtain ⟨y, hy⟩ : ∃ y, X.getD q 0 = y := ⟨_, rfl⟩
          rw [hy] at c1 hyx
          clear hy
          obtain ⟨x, hx⟩ : ∃ y, X.getD (q + 1) 0 = y := ⟨_, rfl⟩
          rw [hx] at c0 hxm hyx
          clear hx
          obtain ⟨hx0, hxN⟩ := ((MX.out x).1 hxm.out).range
          have HAi := Lib.hid (in_any _ A x w8 (by omega) (HA.out.below B1.out))
          have HQ := Lib.hid (inL_iff A x)
          obtain ⟨rr, hrr⟩ : ∃ r, inL A x = r := ⟨_, rfl⟩
          rw [hrr] at HAi HQ
          have HRR : Hid (rr = false → x ∉ A) := Lib.hid (fun h hm => by have := HQ.out.2 hm; rw [h] at this; cases this)
          clear hrr HQ
          go_wp2_with fail
          refine HAi.out.mono ?_
          rintro e w' ⟨rfl, rfl⟩
          clear HAi
          go_wp2_with fail
          go_loopw [11, 12] (fun fv kv wr => ∃ k : Nat, ∃ f : Bool, k ≤ p ∧ kv = .int .i64 k ∧ fv = .bool f ∧ (f = false → x ∉ A ∧ ∀ j, j < k → x ∉ N.getD (X.getD j 0).toNat []) ∧ Below w8.heap.size w8 wr ∧ w8 = wr) (fun _ kv _ => p - (intOf kv).toNat)
          case atStart => exact ⟨0, rr, by omega, rfl, rfl, fun h => ⟨HRR.out h, fun j hj => by omega⟩, Below.refl _ _, rfl⟩
          case round =>
            obtain ⟨k, f, hk, rfl, rfl, hf, -, rfl⟩ := hrel
            have HF := Lib.hid hf
            clear hf
            by_cases hlt2 : k < p
            · have d0 := HC.out k hlt2
              have hym := Lib.hid (getD_mem (L := X) (k := k) (by rw [HP.out]; exact hlt2))
              obtain ⟨z, hz⟩ : ∃ y, X.getD k 0 = y := ⟨_, rfl⟩
              rw [hz] at d0 hym
              have HZ := Lib.hid hz
              clear hz
              cases f with
              | true =>
                go_wp2_with fail
                go_roundw
                case rel => exact ⟨k + 1, true, by omega, by go_num, rfl, (fun h => by cases h), Below.refl _ _, (by first | exact rfl | trivial)⟩
                case measure => simp [intOf]; omega
              | false =>
                have HF1 := Lib.hid (HF.out rfl)
                clear HF
                have hzr := ((MX.out z).1 hym.out).range
                obtain ⟨z0, rfl⟩ := Int.eq_ofNat_of_zero_le hzr.1
                have hzn : z0 < N.length := by have := hzr.2; omega
                clear hzr
                rcases HU.out with ⟨a', cap', e, h2⟩
                injection e with e1 e2 e3
                subst e1 e3
                clear e2
                rcases h2 with h2 | ⟨b3, off3, e, hbl3, hc3⟩
                · rw [h2] at hzn; simp at hzn
                subst e
                obtain ⟨u3, hu1, hu2⟩ := hc3 z0 hzn
                clear hc3
                have HU2 := Lib.hid hu2
                obtain ⟨au, cu, e, _⟩ := hu2
                obtain ⟨lu, hlu⟩ : ∃ l, (N.getD z0 []).length = l := ⟨_, rfl⟩
                rw [hlu] at e
                subst e
                rw [← B1.out.cell (p := ⟨b3, off3 + z0, none⟩) hbl3] at hu1
                have HIn := Lib.hid (in_any _ (N.getD z0 []) x w8 (by have := H3.out z0; omega) (HU2.out.below B1.out))
                have HQ := Lib.hid (inL_iff (N.getD z0 []) x)
                obtain ⟨r2, hr2⟩ : ∃ r, inL (N.getD z0 []) x = r := ⟨_, rfl⟩
                rw [hr2] at HIn HQ
                have HR2 : Hid (r2 = false → x ∉ N.getD z0 []) := Lib.hid (fun h hm => by have := HQ.out.2 hm; rw [h] at this; cases this)
                clear hr2 HQ hlu
                go_wp2_with fail
                refine HIn.out.mono ?_
                rintro e w' ⟨rfl, rfl⟩
                clear HIn
                go_wp2_with fail
                go_roundw
                case rel =>
                  refine ⟨k + 1, r2, by omega, by go_num, rfl, fun h => ⟨HF1.out.1, fun j hj => ?_⟩, Below.refl _ _, (by first | exact rfl | trivial)⟩
                  by_cases e : j = k
                  · subst e; rw [HZ.out]; exact HR2.out h
                  · exact HF1.out.2 j (by omega)
                case measure => simp [intOf]; omega
            · obtain rfl : k = p := by omega
              cases f with
              | true =>
                go_wp2_with fail
                go_roundw
                case rel => exact ⟨q + 1 + 1, by omega, by go_num, Below.refl _ _, (by first | exact rfl | trivial)⟩
                case measure => simp [intOf] <;> omega
              | false =>
                exact absurd (HF.out rfl) (fun h => rch_from MX.out hxm.out h.1 (by rw [HP.out]; exact h.2))
      · obtain rfl : i = p := by omega
        go_wp2_with fail
        go_loopw [13] (fun jv wr => ∃ j : Nat, j ≤ A.length ∧ jv = .int .i64 j ∧ Below w8.heap.size w8 wr ∧ w8 = wr) (fun jv _ => A.length - (intOf jv).toNat)
        case atStart => exact ⟨0, by omega, rfl, Below.refl _ _, rfl⟩
        case round =>
          obtain ⟨j, hj, rfl, -, rfl⟩ := hrel
          by_cases hlt : j < A.length
          · obtain ⟨b, off, e, hbl, hc⟩ := HA.out.addr hlt
            subst e
            have c0 := hc j hlt
            rw [← B1.out.cell (p := ⟨b, off + j, none⟩) hbl] at c0
            have hxm := Lib.hid (getD_mem (L := A) (k := j) hlt)
            clear hc
            obtain ⟨x, hx⟩ : ∃ y, A.getD j 0 = y := ⟨_, rfl⟩
            rw [hx] at c0 hxm
            clear hx
            by_cases hx0 : 0 ≤ x
            · by_cases hxN : x < N.length
              · have HIn := Lib.hid (in_any _ X x w8 (by rw [HP.out]; omega) IX.out)
                rw [(inL_iff X x).2 ((MX.out x).2 (.root hxm.out hx0 hxN))] at HIn
                go_wp2_with fail
                refine HIn.out.mono ?_
                rintro e w' ⟨rfl, rfl⟩
                clear HIn
                go_wp2_with fail
                go_roundw
                case rel => exact ⟨j + 1, by omega, by go_num, Below.refl _ _, (by first | exact rfl | trivial)⟩
                case measure => simp [intOf]; omega
              · go_wp2_with fail
                go_roundw
                case rel => exact ⟨j + 1, by omega, by go_num, Below.refl _ _, (by first | exact rfl | trivial)⟩
                case measure => simp [intOf]; omega
            · go_wp2_with fail
              go_roundw
              case rel => exact ⟨j + 1, by omega, by go_num, Below.refl _ _, (by first | exact rfl | trivial)⟩
              case measure => simp [intOf]; omega
          · go_wp2_with fail
            refine (awake_any w8).mono ?_
            rintro e w12 ⟨rfl, b4⟩
            replace B1 := Lib.hid (B1.out.trans (b4.mono B1.out.size))
            clear b4
            go_wp2_with fail
            go_ret
            exact ⟨rfl, B1.out⟩
end Go.Proofs.Ytgejijlhgimgaaa
