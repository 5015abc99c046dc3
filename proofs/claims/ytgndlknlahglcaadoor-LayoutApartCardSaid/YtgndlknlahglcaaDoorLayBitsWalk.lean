/- Statement LayoutBits: the walk through the law for every three bytes. -/
import Derived.Test.YtgndlknlahglcaaDoorLayLaw
import Derived.Maps.Views
import Derived.Maps.Own
import Derived.Maps.OwnOps
import Derived.Maps.OwnSet
import Derived.Maps.Ext
namespace Go.Proofs.YtgndlknlahglcaaDoor.layoutBits
open Go.ChangeShapes Go.WideShapes Go.ChangeAt Go.RowKit Go.Maps

def Good (w : World) (e : Ending) (w' : World) : Prop := e = .returned (.bool true) ∧ Below w.heap.size w w'
theorem lawK : Keyed Tryd.prog 32 := int_keyed Tryd.underlying32
theorem zeroE (w : World) : (zeroValue 2).run Tryd.prog w = .ok (.int .i64 0) w := by kernel_rfl
theorem key_ok (l : Int) (h0 : 0 ≤ l) (h1 : l < 100000) : keyOf Tryd.prog 32 (.int .i64 l) = some (.int .i64 l) :=
  keyOf_int_mk Tryd.underlying32 (WalkArith.wf_i64 (by omega))
theorem isKey (l : Int) : WideAt.IsKeyLit (.int .i64 l) := by trivial
/-- The sums behind k blocks: the bits of the first word, those of the second. -/
structure SumD (s : Int) (k : Nat) (D : DataW Unit) : Prop where
  t : Tidy D
  m : IsMap D
  a0 : D.atKey (.int .i64 s) (.lit (.int .i64 0)) = .lit (.int .i64 (2 ^ (min k 32) - 1))
  a1 : D.atKey (.int .i64 (s + 1)) (.lit (.int .i64 0)) = .lit (.int .i64 (2 ^ (k - 32) - 1))
  h0 : has D (.int .i64 s) = decide (0 < k)
  h1 : has D (.int .i64 (s + 1)) = decide (32 < k)
  z : size D = if k = 0 then 0 else if k ≤ 32 then 1 else 2
theorem SumD.nil (s : Int) : SumD s 0 (.map []) := ⟨⟨[], rfl, List.Pairwise.nil⟩, ⟨[], rfl⟩, rfl, rfl, rfl, rfl, rfl⟩
theorem ne_key {a b : Int} (h : a ≠ b) : (Lit.int .i64 a) ≠ Lit.int .i64 b := fun e => h (by injection e)
theorem SumD.look {s : Int} {k : Nat} {D : DataW Unit} (h : SumD s k D) (hk : k < 64) : D.atKey (.int .i64 (s + (k : Int) / 32)) (.lit (.int .i64 0)) = .lit (.int .i64 (2 ^ (k % 32) - 1)) := by
  by_cases h2 : k < 32
  · rw [show s + (k : Int) / 32 = s by omega, h.a0, show min k 32 = k % 32 by omega]
  · rw [show s + (k : Int) / 32 = s + 1 by omega, h.a1, show k - 32 = k % 32 by omega]
theorem SumD.step {s : Int} {k : Nat} {D : DataW Unit} (h : SumD s k D) (hk : k < 64) : SumD s (k + 1) (D.put (.int .i64 (s + (k : Int) / 32)) (.lit (.int .i64 (2 ^ (k % 32 + 1) - 1)))) := by
  by_cases h2 : k < 32
  · rw [show s + (k : Int) / 32 = s by omega]
    refine ⟨h.t.put (isKey _) _, ?_, ?_, ?_, ?_, ?_, ?_⟩
    · obtain ⟨es, rfl⟩ := h.m; exact ⟨_, rfl⟩
    · rw [atKey_put_same h.m (isKey _), show min (k + 1) 32 = k % 32 + 1 by omega]
    · rw [atKey_put_other (ne_key (by omega)), h.a1, show k + 1 - 32 = k - 32 by omega]
    · rw [has_put_same h.m (isKey _)]; simp
    · rw [has_put_other (ne_key (by omega)), h.h1]; simp; omega
    · rw [size_put h.t, h.h0, h.z]
      by_cases h0 : k = 0
      · subst h0; rfl
      · rw [decide_eq_true (show 0 < k by omega), if_pos rfl, if_neg h0, if_pos (by omega), if_neg (by omega), if_pos (by omega)]
  · rw [show s + (k : Int) / 32 = s + 1 by omega]
    refine ⟨h.t.put (isKey _) _, ?_, ?_, ?_, ?_, ?_, ?_⟩
    · obtain ⟨es, rfl⟩ := h.m; exact ⟨_, rfl⟩
    · rw [atKey_put_other (ne_key (by omega)), h.a0, show min (k + 1) 32 = min k 32 by omega]
    · rw [atKey_put_same h.m (isKey _), show k + 1 - 32 = k % 32 + 1 by omega]
    · rw [has_put_other (ne_key (by omega)), h.h0]; simp; omega
    · rw [has_put_same h.m (isKey _)]; simp; omega
    · rw [size_put h.t, h.h1, h.z]
      by_cases h0 : k = 32
      · subst h0; rfl
      · rw [decide_eq_true (show 32 < k by omega), if_pos rfl, if_neg (by omega), if_neg (by omega), if_neg (by omega), if_neg (by omega)]
theorem and_bits : ∀ j, j < 32 → bits .and .i64 (2 ^ j - 1) (2 ^ j) = 0 := by decide +kernel
theorem or_bits : ∀ j, j < 32 → bits .or .i64 (2 ^ j - 1) (2 ^ j) = 2 ^ (j + 1) - 1 := by decide +kernel
theorem pow_bd : ∀ j, j < 32 → (1 : Int) ≤ 2 ^ j ∧ (2 : Int) ^ j < 4294967296 ∧ (2 : Int) ^ (j + 1) - 1 < 4294967296 ∧ (0 : Int) ≤ 2 ^ (j + 1) - 1 := by decide +kernel
theorem ok_small {t c b : Nat} (ht : t ≤ 7) (hc : c ≤ 255) (hb : b ≤ 64) : Ok (t + 1) (c + 1) b := by
  have := starts (t + 1) (c + 1) b
  exact ⟨⟨by omega, by omega, by omega, by omega, hb⟩, by omega⟩
theorem run_mkmap (w : World) : (Instr.makeMap 56 none).run Tryd.prog w = .ok (.map (some w.heap.size)) (w.alloc (.map #[] 0)) := by
  simp [Instr.makeMap]
theorem At.only {T C B : Int} {n b : Nat} {w0 W W1 : World} (h : At T C B n w0 W) (hb : Below b W W1) (hn : n < b) (hg : 0 < b) (hw : w0.heap.size ≤ b) : At T C B n w0 W1 :=
  ⟨⟨(hb.cell hn).trans h.x.1, (hb.cell hn).trans h.x.2.1, (hb.cell hn).trans h.x.2.2⟩, h.g.belowN hb hg, h.b.trans (hb.mono hw), Nat.lt_of_lt_of_le h.lt hb.size⟩
/-- The layout's box and the map of the sums. -/
structure BM (T C B : Nat) (n b k : Nat) (w W : World) : Prop where
  a : At T C B n w W
  m : ∃ D, W.ownsMap Tryd.prog 32 (plainElem (H := Unit) Tryd.prog 2) b k D ∧ SumD (startL T C B 5 : Int) k D
theorem owns_below {w w1 : World} {b n : Nat} {D : DataW Unit} {kt : TypeId} {R : Value → Option (DataW Unit × List MemPlace)} (h : w.ownsMap Tryd.prog kt R b n D) (hb : Below w.heap.size w w1) : w1.ownsMap Tryd.prog kt R b n D := by
  have hlt := h.lt
  obtain ⟨es, clock, hk, F, hs, hD⟩ := h
  exact ⟨es, clock, (hb.block b hlt).trans hk, F, hs, hD⟩
theorem BM.below {T C B n b k : Nat} {w W W1 : World} (h : BM T C B n b k w W) (hb : Below W.heap.size W W1) : BM T C B n b k w W1 := by
  obtain ⟨D, h1, h2⟩ := h.m
  exact ⟨h.a.below hb, D, owns_below h1 hb, h2⟩
theorem BM.look {T C B n b k : Nat} {w W : World} (h : BM T C B n b k w W) (hok : Ok T C B) (hk : k < 64) : (Instr.lookup 56 (.map (some b)) (.int .i64 ((startL T C B 5 : Int) + (k : Int) / 32)) false).run Tryd.prog W = .ok (.int .i64 (2 ^ (k % 32) - 1)) W := by
  obtain ⟨D, h1, h2⟩ := h.m
  have hs := startL_le T C B hok.1 5 (by omega)
  obtain ⟨c, hrun, hat, _⟩ := h1.lookup_int lawK Tryd.underlying56 Tryd.underlying2 (zeroE W) (key_ok ((startL T C B 5 : Int) + (k : Int) / 32) (by omega) (by omega))
  rw [h2.look hk] at hat
  cases hat
  exact hrun
set_option maxRecDepth 100000 in
set_option maxHeartbeats 1600000 in
theorem walk_nat (x y z : Nat) (w : World) (hg : Gl w) (hx : x < 256) (hy : y < 256) (hz : z < 256) : Calls Tryd.prog 8 #[.int .u8 x, .int .u8 y, .int .u8 z] w (Good w) := by
  have e1 : (x : Int).tmod 8 = ((x % 8 : Nat) : Int) := by rw [Int.tmod_eq_emod_of_nonneg (by omega)]; simp
  have e2 : (z : Int).tmod 65 = ((z % 65 : Nat) : Int) := by rw [Int.tmod_eq_emod_of_nonneg (by omega)]; simp
  have HG := Lib.hid hg
  have HGB := Lib.hid hg.big
  clear hg
  unfold Good
  go_enter Tryd.func8, Tryd.ntmps8
  go_wp2_with fail
  obtain ⟨T, hT⟩ : ∃ T : Nat, (x : Int) % 8 + 1 = T := ⟨x % 8 + 1, by omega⟩
  obtain ⟨C, hC⟩ : ∃ C : Nat, (y : Int) + 1 = C := ⟨y + 1, by omega⟩
  obtain ⟨B, hB⟩ : ∃ B : Nat, (z : Int) % 65 = B := ⟨z % 65, by omega⟩
  have HO : Hid (Ok T C B) := Lib.hid (by
    have h := ok_small (t := x % 8) (c := y) (b := z % 65) (by omega) (by omega) (by omega)
    rw [show T = x % 8 + 1 by omega, show C = y + 1 by omega, show B = z % 65 by omega]
    exact h)
  rw [hT, hC, hB]
  have hB64 : B ≤ 64 := by omega
  clear hT hC hB e1 e2
  have A := Lib.hid (At.box (T := T) (C := C) (B := B) HG.out rfl)
  have HC := Lib.hid (check_any T C B _ A.out.g)
  rw [checkI_ok HO.out] at HC
  refine HC.out.mono ?_
  rintro e w1 ⟨rfl, hb⟩
  replace A := Lib.hid (A.out.below hb)
  clear hb HC HG
  obtain ⟨x0, x1, x2⟩ := A.out.x
  have mm := run_mkmap
  obtain ⟨z0, z1, z2⟩ := (A.out.below (below1 w1 (.map #[] 0))).x
  go_wp2_with fail
  clear z0 z1 z2
  have M : Hid (BM T C B w.heap.size w1.heap.size 0 w (w1.alloc (.map #[] 0))) := Lib.hid ⟨A.out.below (below1 _ _), _, World.ownsMap_made w1 Tryd.prog 32 _, SumD.nil _⟩
  have LB := Lib.hid (show w.heap.size < w1.heap.size ∧ w.heap.size ≤ w1.heap.size from ⟨A.out.lt, A.out.b.size⟩)
  have HGW := Lib.hid HGB.out
  obtain ⟨b, hb⟩ : ∃ b, w1.heap.size = b := ⟨_, rfl⟩
  rw [hb] at M LB
  rw [hb]
  generalize w1.alloc (.map #[] 0) = W1 at *
  clear A x0 x1 x2 hb mm
  go_loopw [30] (fun iv wr => ∃ k : Nat, k ≤ B ∧ iv = .int .i64 k ∧ BM T C B w.heap.size b k w wr) (fun iv _ => B - (intOf iv).toNat)
  case atStart => exact ⟨0, by omega, rfl, M.out⟩
  case round =>
    clear M
    obtain ⟨k, hk, rfl, hbm⟩ := hrel
    have M := Lib.hid hbm
    clear hbm
    by_cases hlt : k < B
    · obtain ⟨ky, hky⟩ : ∃ ky : Int, ky = (startL T C B 5 : Int) + (k : Int) / 32 := ⟨_, rfl⟩
      have EB : Hid (bitsI T C B k = (ky, 2 ^ (k % 32))) := Lib.hid (by
        unfold bitsI
        rw [unitI_ok HO.out, if_neg]
        · simp [hky]
        · rw [if_pos (by simp [unitsL]; omega)]; have := startL_le T C B HO.out.1 6 (by omega); simp [unitZ]; omega)
      have EM : Hid (mayI T C B ky = false) := Lib.hid (by
        rw [mayI_ok HO.out]
        have := starts T C B
        rw [if_pos (by omega), decide_eq_false (by omega)])
      have EU : Hid (unitI T C B 6 0 = (startL T C B 6 : Int)) := Lib.hid (by
        rw [unitI_ok HO.out, if_pos (by simp [unitsL]; omega)]; simp)
      have h6 : ¬ (startL T C B 6 : Int) ≤ ky := by have := starts T C B; omega
      have LK := Lib.hid (fun W (hW : BM T C B w.heap.size b k w W) => hW.look HO.out (by omega))
      have KK := Lib.hid hky
      rw [← hky] at LK
      have KO : Hid (keyOf Tryd.prog 32 (.int .i64 ky) = some (.int .i64 ky)) := Lib.hid (key_ok ky (by omega) (by have := startL_le T C B HO.out.1 5 (by omega); omega))
      clear hky
      have hand := and_bits (k % 32) (by omega)
      have hor := or_bits (k % 32) (by omega)
      obtain ⟨p1, p2, p3, p4⟩ := pow_bd (k % 32) (by omega)
      have p1' : ¬ (2 : Int) ^ (k % 32) < 1 := by omega
      have p2' : ¬ (4294967296 : Int) ≤ 2 ^ (k % 32) := by omega
      have NW := Lib.hid (show (2 : Int) ^ (k % 32 + 1) - 1 = 2 ^ (k % 32 + 1) - 1 from rfl)
      clear p1 p2
      generalize hnw : (2 : Int) ^ (k % 32 + 1) - 1 = nw at hor p3 p4
      have HNW := Lib.hid hnw
      clear hnw NW
      generalize hlw : (2 : Int) ^ (k % 32) - 1 = lw at hand hor LK
      clear hlw
      generalize (2 : Int) ^ (k % 32) = bt at *
      obtain ⟨x0, x1, x2⟩ := M.out.a.x
      go_wp2_with fail
      refine (bits_any T C B k _ M.out.a.g).mono ?_
      rintro e w5 ⟨rfl, hb⟩
      rw [EB.out]
      replace M := Lib.hid (M.out.below hb)
      clear hb x0 x1 x2
      obtain ⟨x0, x1, x2⟩ := M.out.a.x
      have lk := LK.out _ M.out
      go_wp2_with fail
      refine (may_any T C B ky _ M.out.a.g).mono ?_
      rintro e w6 ⟨rfl, hb⟩
      rw [EM.out]
      replace M := Lib.hid (M.out.below hb)
      clear hb x0 x1 x2 lk
      obtain ⟨x0, x1, x2⟩ := M.out.a.x
      have lk := LK.out _ M.out
      go_wp2_with fail
      refine (block_any T C B 0 _ M.out.a.g).mono ?_
      rintro e w7 ⟨rfl, hb⟩
      rw [EU.out]
      replace M := Lib.hid (M.out.below hb)
      clear hb x0 x1 x2 lk
      obtain ⟨x0, x1, x2⟩ := M.out.a.x
      have lk := LK.out _ M.out
      obtain ⟨D, ho, hsd⟩ := M.out.m
      have OW := Lib.hid ho
      have SD := Lib.hid hsd
      clear ho hsd
      go_wp2_with (first | (at_mapUpdate; refine wpList_mapUpdate_own _ rfl _ _ _ 56 rfl 32 2 lawK Tryd.underlying56 _ b k _ rfl OW.out (by unfold maxLen; omega) _ _ _ rfl rfl KO.out _ [] (plainElem_int Tryd.underlying2 (WalkArith.wf_i64 (by omega))) ?_; intro w8 hown8 hg8))
      have hbw : Below b w7 w8 := (Below.refl _ _).grown hg8 (Nat.le_of_lt OW.out.lt) (fun j hj => by cases hj; exact Nat.le_refl _)
      refine ⟨⟨k + 1, by omega, by go_num, At.only M.out.a hbw LB.out.1 (by have := LB.out; have := HGW.out; omega) LB.out.2, _, hown8, ?_⟩, by simp [intOf]; omega⟩
      rw [KK.out, ← HNW.out]
      exact SD.out.step (by omega)
    · obtain ⟨x0, x1, x2⟩ := M.out.a.x
      go_wp2_with fail
      refine (awake_any _ M.out.a.g).mono ?_
      rintro e w5 ⟨rfl, hb⟩
      replace M := Lib.hid (M.out.below hb)
      clear hb x0 x1 x2
      obtain ⟨D, ho, hsd⟩ := M.out.m
      have hlen := ho.len Tryd.underlying56 3
      have hz : (size D : Int) ≤ 2 := by rw [hsd.z]; split <;> (try split) <;> omega
      clear ho hsd
      go_wp2_with fail
      go_ret
      exact ⟨rfl, M.out.a.b⟩
theorem walk (x y z : Int) (w : World) (hg : Gl w) (hx : 0 ≤ x) (hy : 0 ≤ y) (hz : 0 ≤ z) (hx2 : x < 256) (hy2 : y < 256) (hz2 : z < 256) : Calls Tryd.prog 8 #[.int .u8 x, .int .u8 y, .int .u8 z] w (Good w) := by
  obtain ⟨a, rfl⟩ : ∃ a : Nat, x = a := ⟨x.toNat, by omega⟩
  obtain ⟨b, rfl⟩ : ∃ b : Nat, y = b := ⟨y.toNat, by omega⟩
  obtain ⟨c, rfl⟩ : ∃ c : Nat, z = c := ⟨z.toNat, by omega⟩
  exact walk_nat a b c w hg (by omega) (by omega) (by omega)
end Go.Proofs.YtgndlknlahglcaaDoor.layoutBits
