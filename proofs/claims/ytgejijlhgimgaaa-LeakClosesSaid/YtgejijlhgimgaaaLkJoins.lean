/- The walk through LeakJoins. -/
import Derived.Test.YtgejijlhgimgaaaLkLaws
namespace Go.Proofs.Ytgejijlhgimgaaa
open Go.ChangeShapes Go.WideShapes Go.ChangeAt Go.RowKit Go.Maps
theorem ok_rch {L roots : List Int} {N : List (List Int)} (h : ∀ x, x ∈ L ↔ Rch roots N x) (hn : N.length ≤ 1000) : OkL L := by
  intro x hx
  have := ((h x).1 hx).range
  unfold I64
  omega
theorem nil_of {L : List Int} {P : Int → Prop} (h : ∀ x, x ∈ L ↔ P x) (hp : ∀ x, ¬ P x) : L = [] := by
  cases L with
  | nil => rfl
  | cons a r => exact absurd ((h a).1 (by simp)) (hp a)
set_option maxRecDepth 100000 in
set_option maxHeartbeats 3200000 in
theorem joins_walk (v1 v2 u : Value) (A B : List Int) (N : List (List Int)) (w : World) (hv1 : IS w v1 A) (hv2 : IS w v2 B) (hu : NS w u N) :
    Calls Try.prog 6 #[v1, v2, u] w (Good w) := by
  have HA := Lib.hid hv1
  have HB := Lib.hid hv2
  have HU := Lib.hid hu
  obtain ⟨a1, cap1, rfl⟩ := hv1.form
  obtain ⟨a2, cap2, rfl⟩ := hv2.form
  obtain ⟨a3, cap3, rfl⟩ := hu.form
  clear hv1 hv2 hu
  obtain ⟨m, hm⟩ : ∃ m, B.length = m := ⟨_, rfl⟩
  rw [hm] at HB ⊢
  have HM := Lib.hid hm
  clear hm
  have GR := Lib.hid (great_any _ _ A N w HA.out HU.out)
  by_cases h24 : 24 < m
  · go_enter Try.func6, Try.ntmps6
    go_wp2_with fail
    refine GR.out.mono ?_
    rintro e w' ⟨r, rfl, rfl, hr⟩
    clear hr GR
    cases r with
    | true =>
      go_wp2_with fail
      refine (awake_any w).mono ?_
      rintro e w1 ⟨rfl, hb⟩
      have BB := Lib.hid hb
      clear hb
      go_wp2_with fail
      go_ret
      exact ⟨rfl, BB.out⟩
    | false =>
      go_wp2_with fail
      refine (awake_any w).mono ?_
      rintro e w1 ⟨rfl, hb⟩
      have BB := Lib.hid hb
      clear hb
      go_wp2_with fail
      go_ret
      exact ⟨rfl, BB.out⟩
  go_enter Try.func6, Try.ntmps6
  go_wp2_with fail
  refine GR.out.mono ?_
  rintro e w' ⟨r, rfl, rfl, hr⟩
  clear GR
  cases r with
  | true =>
    clear hr
    go_wp2_with fail
    refine (awake_any w).mono ?_
    rintro e w1 ⟨rfl, hb⟩
    have BB := Lib.hid hb
    clear hb
    go_wp2_with fail
    go_ret
    exact ⟨rfl, BB.out⟩
  | false =>
    obtain ⟨h1, h2, h3⟩ := hr rfl
    have H3 := Lib.hid h3
    clear hr h3
    have h4 : N.length ≤ 1000 := by omega
    have h5 : A.length ≤ 1000 := by omega
    go_wp2_with fail
    refine (reach_any _ _ A N w h5 h4 HA.out HU.out (fun i => by have := H3.out i; omega)).mono ?_
    rintro e w1 ⟨z1, X, rfl, r1, n1, m1, l1, b1⟩
    obtain ⟨a4, c4, rfl, -⟩ := r1.form
    have IX := Lib.hid r1.is
    have MX := Lib.hid m1
    have B1 := Lib.hid b1
    clear r1 n1 m1 b1
    go_wp2_with fail
    refine (reach_any _ _ B N w1 (by rw [HM.out]; omega) h4 (HB.out.below B1.out) (HU.out.below B1.out) (fun i => by have := H3.out i; omega)).mono ?_
    rintro e w2 ⟨z1, Y, rfl, r1, n1, m1, l2, b1⟩
    obtain ⟨a5, c5, rfl, -⟩ := r1.form
    have IY := Lib.hid r1.is
    have MY := Lib.hid m1
    replace IX := Lib.hid (IX.out.below b1)
    replace B1 := Lib.hid (B1.out.trans (b1.mono B1.out.size))
    clear r1 n1 m1 b1
    have lA : A.length ≤ 24 := h2
    have lB : B.length ≤ 24 := by rw [HM.out]; omega
    have lX : X.length ≤ 24 := by omega
    have lY : Y.length ≤ 24 := by omega
    have A1 := Lib.hid (below1 w2 (.cells #[] 3))
    have E1 := Lib.hid (Row.ofBox (B := w2.heap.size) (Box.new w2 #[] 3 rfl) (Nat.le_refl _) (L := []) rfl rfl (by simp))
    have S1 := Lib.hid (HA.out.below (B1.out.trans (A1.out.mono B1.out.size)))
    go_wp2_with (first
      | (at_builtin; refine wpList_app' _ rfl (.tmp 25) (.tmp 26) rfl rfl A1.out E1.out rfl S1.out (by simp <;> omega) ?_; intro v3 w3 r3 b3 g3; obtain ⟨a6, c6, e6⟩ : ∃ a c, v3 = .slice a A.length c := (by obtain ⟨a, c, h, _⟩ := r3.form; exact ⟨a, c, h⟩); subst e6; have R3 := Lib.hid r3; have B3 := Lib.hid b3; have S3 := Lib.hid (HB.out.below (B1.out.trans (b3.mono B1.out.size))); clear r3 b3 g3)
      | (at_builtin; refine wpList_app' _ rfl (.tmp 27) (.tmp 28) rfl rfl B3.out R3.out rfl S3.out (by simp <;> omega) ?_; intro v4 w4 r4 b4 g4; obtain ⟨a7, c7, e7⟩ : ∃ a c, v4 = .slice a (A.length + B.length) c := (by obtain ⟨a, c, h, _⟩ := r4.form; exact ⟨a, c, by rw [h]; simp⟩); subst e7; have R4 := Lib.hid r4; have B4 := Lib.hid b4; clear r4 b4 g4)
      | fail)
    replace IX := Lib.hid (IX.out.below B4.out)
    replace IY := Lib.hid (IY.out.below B4.out)
    replace B1 := Lib.hid (B1.out.trans (B4.out.mono B1.out.size))
    refine (reach_any _ _ ([] ++ A ++ B) N w4 (by simp; omega) h4 R4.out.is (HU.out.below B1.out) (fun i => by have := H3.out i; omega)).mono ?_
    rintro e w5 ⟨z1, L, rfl, r1, n1, m1, l5, b1⟩
    obtain ⟨a8, c8, rfl, -⟩ := r1.form
    have IL := Lib.hid r1.is
    have NL := Lib.hid n1
    have ML : Hid (∀ x, x ∈ L ↔ x ∈ X ∨ x ∈ Y) := Lib.hid (fun x => by rw [m1 x, List.nil_append, Rch.app, MX.out x, MY.out x])
    replace IX := Lib.hid (IX.out.below b1)
    replace IY := Lib.hid (IY.out.below b1)
    replace B1 := Lib.hid (B1.out.trans (b1.mono B1.out.size))
    have OX := Lib.hid (ok_rch MX.out h4)
    have OY := Lib.hid (ok_rch MY.out h4)
    have OL := Lib.hid (ok_rch m1 h4)
    clear r1 n1 m1 b1 R4 B4 R3 B3 S3 S1 E1 A1 MX MY
    have A1 := Lib.hid (below1 w5 (.cells #[] 3))
    have lL : L.length ≤ 24 := by omega
    have E1 := Lib.hid (Row.ofBox (B := w5.heap.size) (Box.new w5 #[] 3 rfl) (Nat.le_refl _) (L := []) rfl rfl (by simp))
    have S1 := Lib.hid (IX.out.below A1.out)
    go_wp2_with (first
      | (at_builtin; refine wpList_app' _ rfl (.tmp 33) (.tmp 34) rfl rfl A1.out E1.out rfl S1.out (by simp <;> omega) ?_; intro v5 w6 r3 b3 g3; obtain ⟨a9, c9, e6⟩ : ∃ a c, v5 = .slice a X.length c := (by obtain ⟨a, c, h, _⟩ := r3.form; exact ⟨a, c, h⟩); subst e6; have R3 := Lib.hid r3; have B3 := Lib.hid b3; have S3 := Lib.hid (IY.out.below b3); clear r3 b3 g3)
      | (at_builtin; refine wpList_app' _ rfl (.tmp 35) (.tmp 36) rfl rfl B3.out R3.out rfl S3.out (by simp <;> omega) ?_; intro v6 w7 r4 b4 g4; obtain ⟨a10, c10, e7⟩ : ∃ a c, v6 = .slice a (X.length + Y.length) c := (by obtain ⟨a, c, h, _⟩ := r4.form; exact ⟨a, c, by rw [h]; simp⟩); subst e7; have R4 := Lib.hid r4; have B4 := Lib.hid b4; clear r4 b4 g4)
      | fail)
    replace IX := Lib.hid (IX.out.below B4.out)
    replace IY := Lib.hid (IY.out.below B4.out)
    replace IL := Lib.hid (IL.out.below B4.out)
    replace B1 := Lib.hid (B1.out.trans (B4.out.mono B1.out.size))
    refine (rising_any _ ([] ++ X ++ Y) w7 (by simp; omega) R4.out.is).mono ?_
    rintro e w8 ⟨z1, R, rfl, r1, n1, m1, l8, b1⟩
    obtain ⟨a11, c11, rfl, -⟩ := r1.form
    have IR := Lib.hid r1.is
    have EQ : Hid (decide (L = R) = true) := Lib.hid (decide_eq_true (NL.out.ext n1 (fun x => by rw [ML.out x, m1 x, List.nil_append, List.mem_append])))
    replace IX := Lib.hid (IX.out.below b1)
    replace IY := Lib.hid (IY.out.below b1)
    replace IL := Lib.hid (IL.out.below b1)
    replace B1 := Lib.hid (B1.out.trans (b1.mono B1.out.size))
    clear r1 n1 m1 b1 R4 B4 R3 B3 S3 S1 E1 A1 NL
    go_wp2_with fail
    refine (same_any _ _ L R w8 (by omega) IL.out IR.out).mono ?_
    rintro e w9 ⟨rfl, b1⟩
    rw [EQ.out]
    replace IX := Lib.hid (IX.out.below b1)
    replace IY := Lib.hid (IY.out.below b1)
    replace IL := Lib.hid (IL.out.below b1)
    replace B1 := Lib.hid (B1.out.trans (b1.mono B1.out.size))
    clear b1 EQ IR
    go_wp2_with fail
    refine (lost_any _ _ X L w9 (by omega) (by omega) IX.out IL.out OX.out OL.out).mono ?_
    rintro e w10 ⟨z1, Z, rfl, r1, -, m1, -, b1⟩
    obtain rfl : Z = [] := nil_of m1 (fun x h => h.2 ((ML.out x).2 (.inl h.1)))
    obtain ⟨a12, c12, rfl, -⟩ := r1.form
    replace IY := Lib.hid (IY.out.below b1)
    replace IL := Lib.hid (IL.out.below b1)
    replace B1 := Lib.hid (B1.out.trans (b1.mono B1.out.size))
    clear b1 r1 m1
    go_wp2_with fail
    refine (wild_any _ _ Y L w10 (by omega) (by omega) IY.out IL.out OY.out OL.out).mono ?_
    rintro e w11 ⟨z1, Z, rfl, r1, -, m1, -, b1⟩
    obtain rfl : Z = [] := nil_of m1 (fun x h => h.2 ((ML.out x).2 (.inr h.1)))
    obtain ⟨a13, c13, rfl, -⟩ := r1.form
    replace B1 := Lib.hid (B1.out.trans (b1.mono B1.out.size))
    clear b1 r1 m1
    go_wp2_with fail
    refine (awake_any w11).mono ?_
    rintro e w12 ⟨rfl, b4⟩
    replace B1 := Lib.hid (B1.out.trans (b4.mono B1.out.size))
    clear b4
    go_wp2_with fail
    go_ret
    exact ⟨rfl, B1.out⟩
end Go.Proofs.Ytgejijlhgimgaaa
