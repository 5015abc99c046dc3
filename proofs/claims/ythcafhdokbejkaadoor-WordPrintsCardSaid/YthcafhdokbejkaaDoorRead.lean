/- read of package word: what it answers at every string. -/
import Derived.Test.YthcafhdokbejkaaDoorPart
import Derived.Test.YthcafhdokbejkaaDoorBase
namespace Go.Proofs.YthcafhdokbejkaaDoor
open Go.RowKit Go.Shelf

theorem RS.new (w : World) (hs : Sen w) : RS w w.heap.size 0 0 0 0 0 ((((w.alloc (.cells #[.int .i64 0, .int .u32 0, .int .u32 0] 33)).alloc (.cells #[.int .i64 0, .int .u32 0, .int .u32 0] 33)).alloc (.cells #[.int .i64 0] 3)).alloc (.cells #[.int .i64 0] 3)) := by
  have b1 := heap_alloc_new w (.cells #[.int .i64 0, .int .u32 0, .int .u32 0] 33)
  generalize hw1 : w.alloc (.cells #[.int .i64 0, .int .u32 0, .int .u32 0] 33) = w1 at *
  have z1 : w1.heap.size = w.heap.size + 1 := by rw [← hw1]; simp
  have b2 := heap_alloc_new w1 (.cells #[.int .i64 0, .int .u32 0, .int .u32 0] 33)
  have q2 := (Below.refl _ _).alloc (Nat.le_refl _) (a := w1) (.cells #[.int .i64 0, .int .u32 0, .int .u32 0] 33)
  generalize hw2 : w1.alloc (.cells #[.int .i64 0, .int .u32 0, .int .u32 0] 33) = w2 at *
  have z2 : w2.heap.size = w1.heap.size + 1 := by rw [← hw2]; simp
  have b3 := heap_alloc_new w2 (.cells #[.int .i64 0] 3)
  have q3 := (Below.refl _ _).alloc (Nat.le_refl _) (a := w2) (.cells #[.int .i64 0] 3)
  generalize hw3 : w2.alloc (.cells #[.int .i64 0] 3) = w3 at *
  have z3 : w3.heap.size = w2.heap.size + 1 := by rw [← hw3]; simp
  have b4 := heap_alloc_new w3 (.cells #[.int .i64 0] 3)
  have q4 := (Below.refl _ _).alloc (Nat.le_refl _) (a := w3) (.cells #[.int .i64 0] 3)
  generalize w3.alloc (.cells #[.int .i64 0] 3) = w4 at *
  have q1 : Below w.heap.size w w1 := by rw [← hw1]; exact (Below.refl _ _).alloc (Nat.le_refl _) _
  rw [z1] at b2
  rw [z2, z1] at b3
  rw [z3, z2, z1] at b4
  have g : Below w.heap.size w w4 := ((q1.trans (q2.mono (by omega))).trans (q3.mono (by omega))).trans (q4.mono (by omega))
  refine ⟨?_, ?_, ?_, b4, g, hs.below g⟩
  · rw [q4.block _ (by omega), q3.block _ (by omega), q2.block _ (by omega)]; exact b1
  · rw [q4.block _ (by omega), q3.block _ (by omega)]; exact b2
  · rw [q4.block _ (by omega)]; exact b3

/-- The word is stored into the result. -/
theorem RS.fin {w W : World} {B : Nat} {v n r a b : Int} (h : RS w B v n r a b W) :
    (((W.setCell ⟨B, 0, none⟩ (.int .i64 v)).setCell ⟨B, 1, none⟩ (.int .u32 n)).setCell ⟨B, 2, none⟩ (.int .u32 r)).heap[B]? = some (.cells #[.int .i64 v, .int .u32 n, .int .u32 r] 33 (0, 0)) ∧
    Below B w (((W.setCell ⟨B, 0, none⟩ (.int .i64 v)).setCell ⟨B, 1, none⟩ (.int .u32 n)).setCell ⟨B, 2, none⟩ (.int .u32 r)) :=
  ⟨set_three (set_three (set_three h.h0 0 (by omega)) 1 (by omega)) 2 (by omega), ((h.g.setCell (by simp) _).setCell (by simp) _).setCell (by simp) _⟩

theorem small_any (p : Addr) (W : World) : Calls Tryd.prog 34 #[.pointer (some p)] W fun e W' => e = .returned (.func (.func 43) #[] #[.pointer (some ⟨W.heap.size, 0, none⟩)]) ∧ W.alloc (.cells #[.pointer (some p)] 67) = W' := by
  go_enter Tryd.func34, Tryd.ntmps34
  go_wp2
  go_ret
  exact ⟨rfl, rfl⟩
def FitsR (a b : Int) : Prop := 1 ≤ a ∧ a ≤ 72 ∧ 1 ≤ b ∧ b ≤ 16777215
def St4 (l : List UInt8) (a : Int) (good : Bool) (r : Int) : Prop :=
  (Lib.hasPrefix l [58] = false ∧ good = false) ∨ ∃ l', l = 58 :: l' ∧ ∃ k, (Asc l' → k = cutAt l') ∧ ∃ x g, okOf (Lib.parseIntB 32 (l'.take k)) = (if g = true then some x else none) ∧
    (((g = false ∨ l'.drop k ≠ []) ∧ good = false) ∨ (g = true ∧ l'.drop k = [] ∧ ((FitsR a x ∧ good = true ∧ r = a * 16777216 + x) ∨ (¬ FitsR a x ∧ good = false))))
def St3 (l : List UInt8) (good : Bool) (r : Int) : Prop :=
  (Lib.hasPrefix l [35] = false ∧ good = false) ∨ ∃ l', l = 35 :: l' ∧ ∃ k, (Asc l' → k = cutAt l') ∧ ∃ x g, okOf (Lib.parseIntB 32 (l'.take k)) = (if g = true then some x else none) ∧
    ((g = false ∧ good = false) ∨ (g = true ∧ St4 (l'.drop k) x good r))
def St2 (l : List UInt8) (good : Bool) (n r : Int) : Prop :=
  (Lib.hasPrefix l [46] = false ∧ good = false) ∨ ∃ l', l = 46 :: l' ∧ ∃ k, (Asc l' → k = cutAt l') ∧ ∃ x g, natOf (okOf (Lib.parseUintB 32 (l'.take k))) = (if g = true then some x else none) ∧
    ((g = false ∧ good = false) ∨ (g = true ∧ n = x ∧ ((l'.drop k = [] ∧ good = true ∧ r = 0) ∨ (l'.drop k ≠ [] ∧ St3 (l'.drop k) good r))))
/-- What read makes of the string l. -/
def St1 (l : List UInt8) (good : Bool) (v n r : Int) : Prop :=
  ∃ k, (Asc l → k = cutAt l) ∧ ∃ x g, okOf (Lib.parseIntB 64 (l.take k)) = (if g = true then some x else none) ∧
    ((g = false ∧ good = false) ∨ (g = true ∧ v = x ∧ ((l.drop k = [] ∧ good = true ∧ n = 0 ∧ r = 0) ∨ (l.drop k ≠ [] ∧ St2 (l.drop k) good n r))))
theorem pre_cases (c : UInt8) (l : List UInt8) : (∃ l', l = c :: l') ∨ Lib.hasPrefix l [c] = false := by
  cases l with
  | nil => exact .inr rfl
  | cons d l =>
    by_cases h : d = c
    · subst h; exact .inl ⟨l, rfl⟩
    · right
      unfold Lib.hasPrefix
      simp [List.isPrefixOf, Ne.symm h]
theorem str_empty {l : List UInt8} (h : l = []) : (⟨l.toArray⟩ : ByteArray) = ⟨#[]⟩ := by rw [h]
theorem str_ne {l : List UInt8} (h : l ≠ []) : l.isEmpty = false := by
  cases l with
  | nil => exact absurd rfl h
  | cons _ _ => rfl

set_option maxRecDepth 100000 in
set_option maxHeartbeats 4000000 in
theorem read_any (s : ByteArray) (w : World) (hs : s.size ≤ 1000) (hB : 3 ≤ w.heap.size) (hw : Sen w) :
    Calls Tryd.prog 23 #[.string s] w fun e W' => ∃ v n r good, e = .returned (.tuple #[.agg #[.int .i64 v, .int .u32 n, .int .u32 r], .bool good]) ∧ (-9223372036854775808 ≤ v ∧ v ≤ 9223372036854775807) ∧ (0 ≤ n ∧ n < 4294967296) ∧ (0 ≤ r ∧ r < 4294967296) ∧ St1 s.data.toList good v n r ∧ Below w.heap.size w W' := by
  have R0 := Lib.hid (RS.new w hw)
  go_enter Tryd.func23, Tryd.ntmps23
  go_wp2_with fail
  generalize ((((w.alloc (.cells #[.int .i64 0, .int .u32 0, .int .u32 0] 33)).alloc (.cells #[.int .i64 0, .int .u32 0, .int .u32 0] 33)).alloc (.cells #[.int .i64 0] 3)).alloc (.cells #[.int .i64 0] 3)) = W0 at *
  generalize hBB : w.heap.size = B at *
  have HBB := Lib.hid hBB
  clear hBB
  refine (part30 s.data.toList s _ (by simp) hs hB R0.out).mono ?_
  rintro e W1 ⟨k1, hk1, hc1, x1, g1, rfl, hx1, hp1, r1⟩
  have R1 := Lib.hid r1
  have P1 := Lib.hid hp1
  have C1 := Lib.hid hc1
  clear r1 hp1 hc1 R0
  have hsz := Lib.size_eq s
  cases g1
  case false =>
    have F := Lib.hid R1.out.fin
    have kk := three_cells R1.out.h1
    have kz := three_cells R1.out.h0
    obtain ⟨⟨c0, c1, c2⟩, -⟩ := kk
    obtain ⟨⟨d0, d1, d2⟩, f0, f1, f2⟩ := kz
    have kf := three_cells F.out.1
    obtain ⟨⟨e0, e1, e2⟩, -⟩ := kf
    go_wp2
    refine bodyPost_ret (v := .tuple #[.agg #[.int .i64 (x1), .int .u32 (0), .int .u32 (0)], .bool false]) (by simp [results, Tryd.f23, go_sem, e0, e1, e2]) rfl ?_
    rw [HBB.out]
    exact ⟨_, _, _, _, rfl, by omega, by omega, by omega, ⟨k1, C1.out, x1, false, P1.out, .inl ⟨rfl, rfl⟩⟩, F.out.2⟩
  case true =>
    have hd1 : (s.data.toList.drop k1).length ≤ 1000 := by simp at hsz ⊢; omega
    have DD := Lib.hid (rfl : s.data.toList.drop k1 = s.data.toList.drop k1)
    by_cases he1 : s.data.toList.drop k1 = []
    · skip
      have hs1 := str_empty he1
      have HE := Lib.hid he1
      clear he1
      have F := Lib.hid R1.out.fin
      have kk := three_cells R1.out.h1
      have kz := three_cells R1.out.h0
      obtain ⟨⟨c0, c1, c2⟩, -⟩ := kk
      obtain ⟨⟨d0, d1, d2⟩, f0, f1, f2⟩ := kz
      have kf := three_cells F.out.1
      obtain ⟨⟨e0, e1, e2⟩, -⟩ := kf
      go_wp2
      refine bodyPost_ret (v := .tuple #[.agg #[.int .i64 (x1), .int .u32 (0), .int .u32 (0)], .bool true]) (by simp [results, Tryd.f23, go_sem, e0, e1, e2]) rfl ?_
      rw [HBB.out]
      exact ⟨_, _, _, _, rfl, by omega, by omega, by omega, ⟨k1, C1.out, x1, true, P1.out, .inr ⟨rfl, rfl, .inl ⟨HE.out, rfl, rfl, rfl⟩⟩⟩, F.out.2⟩
    · skip
      have hs1 := str_ne he1
      have HE := Lib.hid he1
      clear he1
      generalize hl1 : s.data.toList.drop k1 = l1 at *
      have HL1 := Lib.hid hl1
      clear hl1 DD
      have P1X := Lib.hid (show ∀ n r good, St2 l1 good n r → St1 s.data.toList good x1 n r from fun n r good h => ⟨k1, C1.out, x1, true, P1.out, .inr ⟨rfl, rfl, .inr (by rw [HL1.out]; exact ⟨HE.out, h⟩)⟩⟩)
      clear HE C1 P1
      go_wp2_with fail
      rcases pre_cases 46 l1 with ⟨l2, rfl⟩ | hno
      · skip
        have hd2 : l2.length ≤ 1000 := by simp at hd1; omega
        refine (part32 l2 ⟨(46 :: l2).toArray⟩ ⟨#[46]⟩ (by simp) (by simp [ByteArray.size]; simp at hd1; omega) hB R1.out).mono ?_
        rintro e W2 ⟨k2, hk2, hc2, x2, g2, rfl, hx2, hp2, r2⟩
        have R2 := Lib.hid r2
        clear R1
        have R1 := R2
        clear R2
        have P2 := Lib.hid hp2
        have C2 := Lib.hid hc2
        clear r2 hp2 hc2
        have hdd2 : (l2.drop k2).length ≤ 1000 := by simp; omega
        cases g2
        case false =>
          have F := Lib.hid R1.out.fin
          have kk := three_cells R1.out.h1
          have kz := three_cells R1.out.h0
          obtain ⟨⟨c0, c1, c2⟩, -⟩ := kk
          obtain ⟨⟨d0, d1, d2⟩, f0, f1, f2⟩ := kz
          have kf := three_cells F.out.1
          obtain ⟨⟨e0, e1, e2⟩, -⟩ := kf
          go_wp2
          refine bodyPost_ret (v := .tuple #[.agg #[.int .i64 (x1), .int .u32 (x2), .int .u32 (0)], .bool false]) (by simp [results, Tryd.f23, go_sem, e0, e1, e2]) rfl ?_
          rw [HBB.out]
          exact ⟨_, _, _, _, rfl, by omega, by omega, by omega, P1X.out _ _ _ (.inr ⟨l2, rfl, k2, C2.out, x2, false, P2.out, .inl ⟨rfl, rfl⟩⟩), F.out.2⟩
        case true =>
          by_cases he2 : l2.drop k2 = []
          · skip
            have hs2 := str_empty he2
            have HE := Lib.hid he2
            clear he2
            have F := Lib.hid R1.out.fin
            have kk := three_cells R1.out.h1
            have kz := three_cells R1.out.h0
            obtain ⟨⟨c0, c1, c2⟩, -⟩ := kk
            obtain ⟨⟨d0, d1, d2⟩, f0, f1, f2⟩ := kz
            have kf := three_cells F.out.1
            obtain ⟨⟨e0, e1, e2⟩, -⟩ := kf
            go_wp2
            refine bodyPost_ret (v := .tuple #[.agg #[.int .i64 (x1), .int .u32 (x2), .int .u32 (0)], .bool true]) (by simp [results, Tryd.f23, go_sem, e0, e1, e2]) rfl ?_
            rw [HBB.out]
            exact ⟨_, _, _, _, rfl, by omega, by omega, by omega, P1X.out _ _ _ (.inr ⟨l2, rfl, k2, C2.out, x2, true, P2.out, .inr ⟨rfl, rfl, .inl ⟨HE.out, rfl, rfl⟩⟩⟩), F.out.2⟩
          · skip
            have hs2 := str_ne he2
            have HE := Lib.hid he2
            clear he2
            have P2X := Lib.hid (show ∀ r good, St3 (l2.drop k2) good r → St1 s.data.toList good x1 x2 r from fun r good h => P1X.out _ _ _ (.inr ⟨l2, rfl, k2, C2.out, x2, true, P2.out, .inr ⟨rfl, rfl, .inr ⟨HE.out, h⟩⟩⟩))
            clear HE P1X C2 P2 HL1
            generalize l2.drop k2 = l3' at *
            go_wp2_with fail
            refine (small_any _ _).mono ?_
            rintro e wq ⟨rfl, rfl⟩
            have hN := heap_alloc_new W2 (.cells #[.pointer (some ⟨B + 2, 0, none⟩)] 67)
            have R2 := Lib.hid (R1.out.below ((Below.refl _ _).alloc (Nat.le_refl _) (.cells #[.pointer (some ⟨B + 2, 0, none⟩)] 67)))
            clear R1
            have R1 := R2
            clear R2
            go_wp2_with fail
            rcases pre_cases 35 l3' with ⟨l3, rfl⟩ | hno
            · skip
              have hd2' : (35 :: l3).length ≤ 1000 := hdd2
              clear hd2
              have hd2 := hd2'
              clear hd2'
              have hd3 : l3.length ≤ 1000 := by simp at hd2; omega
              refine (part43a l3 ⟨(35 :: l3).toArray⟩ ⟨#[35]⟩ (by simp) (by simp [ByteArray.size]; simp at hd2; omega) hB R1.out hN).mono ?_
              rintro e W3 ⟨k3, hk3, hc3, x3, g3, rfl, hx3, hp3, r3⟩
              have R2 := Lib.hid r3
              clear R1
              have R1 := R2
              clear R2
              have P3 := Lib.hid hp3
              have C3 := Lib.hid hc3
              clear r3 hp3 hc3
              have hdd3 : (l3.drop k3).length ≤ 1000 := by simp; omega
              cases g3
              case false =>
                have F := Lib.hid R1.out.fin
                have kk := three_cells R1.out.h1
                have kz := three_cells R1.out.h0
                obtain ⟨⟨c0, c1, c2⟩, -⟩ := kk
                obtain ⟨⟨d0, d1, d2⟩, f0, f1, f2⟩ := kz
                have kf := three_cells F.out.1
                obtain ⟨⟨e0, e1, e2⟩, -⟩ := kf
                go_wp2
                refine bodyPost_ret (v := .tuple #[.agg #[.int .i64 (x1), .int .u32 (x2), .int .u32 (0)], .bool false]) (by simp [results, Tryd.f23, go_sem, e0, e1, e2]) rfl ?_
                rw [HBB.out]
                exact ⟨_, _, _, _, rfl, by omega, by omega, by omega, P2X.out _ _ (.inr ⟨l3, rfl, k3, C3.out, x3, false, P3.out, .inl ⟨rfl, rfl⟩⟩), F.out.2⟩
              case true =>
                have P3X := Lib.hid (show ∀ r good, St4 (l3.drop k3) x3 good r → St1 s.data.toList good x1 x2 r from fun r good h => P2X.out _ _ (.inr ⟨l3, rfl, k3, C3.out, x3, true, P3.out, .inr ⟨rfl, h⟩⟩))
                clear P2X C3 P3 hN
                generalize l3.drop k3 = l4' at *
                go_wp2_with fail
                refine (small_any _ _).mono ?_
                rintro e wq ⟨rfl, rfl⟩
                have hN := heap_alloc_new W3 (.cells #[.pointer (some ⟨B + 3, 0, none⟩)] 67)
                have R2 := Lib.hid (R1.out.below ((Below.refl _ _).alloc (Nat.le_refl _) (.cells #[.pointer (some ⟨B + 3, 0, none⟩)] 67)))
                clear R1
                have R1 := R2
                clear R2
                go_wp2_with fail
                rcases pre_cases 58 l4' with ⟨l4, rfl⟩ | hno
                · skip
                  have hd3' : (58 :: l4).length ≤ 1000 := hdd3
                  clear hd3
                  have hd3 := hd3'
                  clear hd3'
                  have hd4 : l4.length ≤ 1000 := by simp at hd3; omega
                  refine (part43b l4 ⟨(58 :: l4).toArray⟩ ⟨#[58]⟩ (by simp) (by simp [ByteArray.size]; simp at hd3; omega) hB R1.out hN).mono ?_
                  rintro e W4 ⟨k4, hk4, hc4, x4, g4, rfl, hx4, hp4, r4⟩
                  have R2 := Lib.hid r4
                  clear R1
                  have R1 := R2
                  clear R2
                  have P4 := Lib.hid hp4
                  have C4 := Lib.hid hc4
                  clear r4 hp4 hc4
                  have hdd4 : (l4.drop k4).length ≤ 1000 := by simp; omega
                  cases g4
                  case false =>
                    have F := Lib.hid R1.out.fin
                    have kk := three_cells R1.out.h1
                    have kz := three_cells R1.out.h0
                    obtain ⟨⟨c0, c1, c2⟩, -⟩ := kk
                    obtain ⟨⟨d0, d1, d2⟩, f0, f1, f2⟩ := kz
                    have kf := three_cells F.out.1
                    obtain ⟨⟨e0, e1, e2⟩, -⟩ := kf
                    go_wp2
                    refine bodyPost_ret (v := .tuple #[.agg #[.int .i64 (x1), .int .u32 (x2), .int .u32 (0)], .bool false]) (by simp [results, Tryd.f23, go_sem, e0, e1, e2]) rfl ?_
                    rw [HBB.out]
                    exact ⟨_, _, _, _, rfl, by omega, by omega, by omega, P3X.out _ _ (.inr ⟨l4, rfl, k4, C4.out, x4, false, P4.out, .inl ⟨.inl rfl, rfl⟩⟩), F.out.2⟩
                  case true =>
                    by_cases he4 : l4.drop k4 = []
                    · skip
                      have hs4 := str_empty he4
                      have HE := Lib.hid he4
                      clear he4
                      have ka := cell_of_one R1.out.h2
                      have kb := cell_of_one R1.out.h3
                      go_wp2_with fail
                      clear ka kb
                      by_cases hfit : FitsR x3 x4
                      · skip
                        have HF := Lib.hid hfit
                        obtain ⟨t1, t2, t3, t4⟩ := hfit
                        refine (ref_ok x3 x4 _ t1 t2 t3 t4).mono ?_
                        rintro e wq ⟨rfl, rfl⟩
                        have z0 := (three_cells R1.out.h1).1.2.2
                        have z1 := (three_cells R1.out.h1).2.2.2
                        have R2 := Lib.hid (R1.out.set2 hB (x3 * 16777216 + x4))
                        clear R1
                        have R1 := R2
                        clear R2
                        have F := Lib.hid R1.out.fin
                        have kk := three_cells R1.out.h1
                        have kz := three_cells R1.out.h0
                        obtain ⟨⟨c0, c1, c2⟩, -⟩ := kk
                        obtain ⟨⟨d0, d1, d2⟩, f0, f1, f2⟩ := kz
                        have kf := three_cells F.out.1
                        obtain ⟨⟨e0, e1, e2⟩, -⟩ := kf
                        go_wp2
                        refine bodyPost_ret (v := .tuple #[.agg #[.int .i64 (x1), .int .u32 (x2), .int .u32 (x3 * 16777216 + x4)], .bool true]) (by simp [results, Tryd.f23, go_sem, e0, e1, e2]) rfl ?_
                        rw [HBB.out]
                        exact ⟨_, _, _, _, rfl, by omega, by omega, by omega, P3X.out _ _ (.inr ⟨l4, rfl, k4, C4.out, x4, true, P4.out, .inr ⟨rfl, HE.out, .inl ⟨HF.out, rfl, rfl⟩⟩⟩), F.out.2⟩
                      · skip
                        have HF := Lib.hid hfit
                        refine (ref_no x3 x4 _ hfit).mono ?_
                        rintro e wq ⟨rfl, rfl⟩
                        have z0 := (three_cells R1.out.h1).1.2.2
                        have z1 := (three_cells R1.out.h1).2.2.2
                        have R2 := Lib.hid (R1.out.set2 hB 0)
                        clear R1 hfit
                        have R1 := R2
                        clear R2
                        have F := Lib.hid R1.out.fin
                        have kk := three_cells R1.out.h1
                        have kz := three_cells R1.out.h0
                        obtain ⟨⟨c0, c1, c2⟩, -⟩ := kk
                        obtain ⟨⟨d0, d1, d2⟩, f0, f1, f2⟩ := kz
                        have kf := three_cells F.out.1
                        obtain ⟨⟨e0, e1, e2⟩, -⟩ := kf
                        go_wp2
                        refine bodyPost_ret (v := .tuple #[.agg #[.int .i64 (x1), .int .u32 (x2), .int .u32 (0)], .bool false]) (by simp [results, Tryd.f23, go_sem, e0, e1, e2]) rfl ?_
                        rw [HBB.out]
                        exact ⟨_, _, _, _, rfl, by omega, by omega, by omega, P3X.out _ _ (.inr ⟨l4, rfl, k4, C4.out, x4, true, P4.out, .inr ⟨rfl, HE.out, .inr ⟨HF.out, rfl⟩⟩⟩), F.out.2⟩
                    · skip
                      have hs4 := str_ne he4
                      have HE := Lib.hid he4
                      clear he4
                      have F := Lib.hid R1.out.fin
                      have kk := three_cells R1.out.h1
                      have kz := three_cells R1.out.h0
                      obtain ⟨⟨c0, c1, c2⟩, -⟩ := kk
                      obtain ⟨⟨d0, d1, d2⟩, f0, f1, f2⟩ := kz
                      have kf := three_cells F.out.1
                      obtain ⟨⟨e0, e1, e2⟩, -⟩ := kf
                      go_wp2
                      refine bodyPost_ret (v := .tuple #[.agg #[.int .i64 (x1), .int .u32 (x2), .int .u32 (0)], .bool false]) (by simp [results, Tryd.f23, go_sem, e0, e1, e2]) rfl ?_
                      rw [HBB.out]
                      exact ⟨_, _, _, _, rfl, by omega, by omega, by omega, P3X.out _ _ (.inr ⟨l4, rfl, k4, C4.out, x4, true, P4.out, .inl ⟨.inr HE.out, rfl⟩⟩), F.out.2⟩
                · skip
                  refine (part_no _ ⟨l4'.toArray⟩ ⟨#[58]⟩ _ (by simpa using hno)).mono ?_
                  rintro e wq ⟨rfl, rfl⟩
                  have NO := Lib.hid hno
                  clear hno
                  have F := Lib.hid R1.out.fin
                  have kk := three_cells R1.out.h1
                  have kz := three_cells R1.out.h0
                  obtain ⟨⟨c0, c1, c2⟩, -⟩ := kk
                  obtain ⟨⟨d0, d1, d2⟩, f0, f1, f2⟩ := kz
                  have kf := three_cells F.out.1
                  obtain ⟨⟨e0, e1, e2⟩, -⟩ := kf
                  go_wp2
                  refine bodyPost_ret (v := .tuple #[.agg #[.int .i64 (x1), .int .u32 (x2), .int .u32 (0)], .bool false]) (by simp [results, Tryd.f23, go_sem, e0, e1, e2]) rfl ?_
                  rw [HBB.out]
                  exact ⟨_, _, _, _, rfl, by omega, by omega, by omega, P3X.out _ _ (.inl ⟨NO.out, rfl⟩), F.out.2⟩
            · skip
              refine (part_no _ ⟨l3'.toArray⟩ ⟨#[35]⟩ _ (by simpa using hno)).mono ?_
              rintro e wq ⟨rfl, rfl⟩
              have NO := Lib.hid hno
              clear hno
              have F := Lib.hid R1.out.fin
              have kk := three_cells R1.out.h1
              have kz := three_cells R1.out.h0
              obtain ⟨⟨c0, c1, c2⟩, -⟩ := kk
              obtain ⟨⟨d0, d1, d2⟩, f0, f1, f2⟩ := kz
              have kf := three_cells F.out.1
              obtain ⟨⟨e0, e1, e2⟩, -⟩ := kf
              go_wp2
              refine bodyPost_ret (v := .tuple #[.agg #[.int .i64 (x1), .int .u32 (x2), .int .u32 (0)], .bool false]) (by simp [results, Tryd.f23, go_sem, e0, e1, e2]) rfl ?_
              rw [HBB.out]
              exact ⟨_, _, _, _, rfl, by omega, by omega, by omega, P2X.out _ _ (.inl ⟨NO.out, rfl⟩), F.out.2⟩
      · skip
        refine (part_no _ ⟨l1.toArray⟩ ⟨#[46]⟩ _ (by simpa using hno)).mono ?_
        rintro e wq ⟨rfl, rfl⟩
        have NO := Lib.hid hno
        clear hno
        have F := Lib.hid R1.out.fin
        have kk := three_cells R1.out.h1
        have kz := three_cells R1.out.h0
        obtain ⟨⟨c0, c1, c2⟩, -⟩ := kk
        obtain ⟨⟨d0, d1, d2⟩, f0, f1, f2⟩ := kz
        have kf := three_cells F.out.1
        obtain ⟨⟨e0, e1, e2⟩, -⟩ := kf
        go_wp2
        refine bodyPost_ret (v := .tuple #[.agg #[.int .i64 (x1), .int .u32 (0), .int .u32 (0)], .bool false]) (by simp [results, Tryd.f23, go_sem, e0, e1, e2]) rfl ?_
        rw [HBB.out]
        exact ⟨_, _, _, _, rfl, by omega, by omega, by omega, P1X.out _ _ _ (.inl ⟨NO.out, rfl⟩), F.out.2⟩
end Go.Proofs.YthcafhdokbejkaaDoor
