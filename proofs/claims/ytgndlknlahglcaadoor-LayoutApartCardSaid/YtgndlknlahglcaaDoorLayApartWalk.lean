/- Statement LayoutApart: the walk through the law for every three bytes. -/
import Derived.Test.YtgndlknlahglcaaDoorLayName
namespace Go.Proofs.YtgndlknlahglcaaDoor.layoutApart
open Go.ChangeShapes Go.WideShapes Go.ChangeAt Go.RowKit Go.Maps
open Go.Proofs.YtgndlknlahglcaaDoor.layoutBits (owns_below At.only ne_key isKey ok_small)

def Good (w : World) (e : Ending) (w' : World) : Prop := e = .returned (.bool true) ∧ Below w.heap.size w w'
theorem mk1 (w : World) : (Instr.makeMap 51 none).run Tryd.prog w = .ok (.map (some w.heap.size)) (w.alloc (.map #[] 0)) := by
  simp [Instr.makeMap]
theorem mk2 (w : World) : (Instr.makeMap 52 none).run Tryd.prog w = .ok (.map (some w.heap.size)) (w.alloc (.map #[] 0)) := by
  simp [Instr.makeMap]
theorem conv2 (a : UInt8) (x : Int) (d : Nat) (hd : d < 100) (hx : x = 48 + (d : Int)) (w : World) (b : Nat) (h0 : w.cell? ⟨b, 0, none⟩ = some (.int .u8 (a.toNat : Int))) (h1 : w.cell? ⟨b, 1, none⟩ = some (.int .u8 x)) : (convert 54 9 (.slice (some ⟨b, 0, none⟩) 2 2)).run Tryd.prog w = .ok (.string ⟨#[a, dgt d]⟩) w :=
  run_convert_bytes_back (P := Tryd.prog) w 54 9 5 ⟨b, 0, none⟩ 2 [a, dgt d] Tryd.underlying54 Tryd.underlying5 Tryd.underlying9 (fun j hj => by
    match j, hj with
    | 0, _ => exact h0
    | 1, _ => simp only [List.getElem_cons_succ, List.getElem_cons_zero]; rw [dgt_nat d hd, ← hx]; exact h1)
section
variable (T C B : Nat)
theorem own_all (p : Nat) (h : p < 8) : ownL T C B (p / 8) = [97, 108, 108] := by unfold ownL; rw [if_pos (by omega)]
theorem rank_all (p : Nat) (h : p < 8) : rank T C B p = p := by unfold rank; rw [if_pos h]
theorem own_ann (k i : Nat) (hk : k < T) (hi : i < 8) : ownL T C B ((8 + 8 * k + i) / 8) = [116, dgt (k + 1)] := by
  unfold ownL
  rw [if_neg (by omega), if_pos (by omega), show (8 + 8 * k + i) / 8 = k + 1 by omega]
theorem rank_ann (k i : Nat) (hk : k < T) (hi : i < 8) : rank T C B (8 + 8 * k + i) = (k + 1) * 1000 + i := by
  unfold rank
  rw [if_neg (by omega), if_pos (by omega), show (8 + 8 * k + i - 8) / 8 = k by omega, show (8 + 8 * k + i - 8) % 8 = i by omega]
theorem own_rec (k i : Nat) (hk : k < T) (hi : i < 8) : ownL T C B ((8 + 8 * T + 8 * k + i) / 8) = [116, dgt (k + 1)] := by
  unfold ownL
  rw [if_neg (by omega), if_neg (by omega), if_pos (by omega), show (8 + 8 * T + 8 * k + i) / 8 - T = k + 1 by omega]
theorem rank_rec (k i : Nat) (hk : k < T) (hi : i < 8) : rank T C B (8 + 8 * T + 8 * k + i) = (k + 1) * 1000 + 2 + i := by
  unfold rank
  rw [if_neg (by omega), if_neg (by omega), if_pos (by omega), show (8 + 8 * T + 8 * k + i - (8 + 8 * T)) / 8 = k by omega, show (8 + 8 * T + 8 * k + i - (8 + 8 * T)) % 8 = i by omega]
theorem own_slot (k i : Nat) (hk : k < T) (hi : i < 104) : ownL T C B ((startL T C B 4 + 104 * k + i) / 8) = [116, dgt (k + 1)] := by
  have := starts T C B
  unfold ownL
  rw [if_neg (by omega), if_neg (by omega), if_neg (by omega), if_neg (by omega), if_pos (by omega), show ((startL T C B 4 + 104 * k + i) / 8 - startL T C B 4 / 8) / 13 = k by omega]
theorem rank_slot (k i : Nat) (hk : k < T) (hi : i < 104) : rank T C B (startL T C B 4 + 104 * k + i) = (k + 1) * 1000 + 10 + i := by
  have := starts T C B
  unfold rank
  rw [if_neg (by omega), if_neg (by omega), if_neg (by omega), if_neg (by omega), if_pos (by omega), show (startL T C B 4 + 104 * k + i - startL T C B 4) / 104 = k by omega, show (startL T C B 4 + 104 * k + i - startL T C B 4) % 104 = i by omega]
theorem own_cell (i : Nat) (hi : i < C) : ownL T C B ((8 + 16 * T + i) / 8) = [99, 101, 108, 108, 115] := by
  have := starts T C B
  unfold ownL
  rw [if_neg (by omega), if_neg (by omega), if_neg (by omega), if_pos (by omega)]
theorem rank_cell (i : Nat) (hi : i < C) : rank T C B (8 + 16 * T + i) = 10000 + i := by
  have := starts T C B
  unfold rank
  rw [if_neg (by omega), if_neg (by omega), if_neg (by omega), if_pos (by omega)]
  omega
theorem own_block (k i : Nat) (_ : k < B) (hi : i < 32) : ownL T C B ((startL T C B 6 + 32 * k + i) / 8) = [98, dgt k] := by
  have := starts T C B
  unfold ownL
  rw [if_neg (by omega), if_neg (by omega), if_neg (by omega), if_neg (by omega), if_neg (by omega), show ((startL T C B 6 + 32 * k + i) / 8 - startL T C B 6 / 8) / 4 = k by omega]
theorem rank_block (k i : Nat) (_ : k < B) (_ : i < 32) : rank T C B (startL T C B 6 + 32 * k + i) = 20000 + 32 * k + i := by
  have := starts T C B
  unfold rank
  rw [if_neg (by omega), if_neg (by omega), if_neg (by omega), if_neg (by omega), if_neg (by omega), if_neg (by omega)]
  omega
end
set_option maxRecDepth 100000 in
set_option maxHeartbeats 12800000 in
theorem walk_nat (x y z : Nat) (w : World) (hg : Gl w) (hx : x < 256) (hy : y < 256) (hz : z < 256) : Calls Tryd.prog 7 #[.int .u8 x, .int .u8 y, .int .u8 z] w (Good w) := by
  have e1 : (x : Int).tmod 8 = ((x % 8 : Nat) : Int) := by rw [Int.tmod_eq_emod_of_nonneg (by omega)]; simp
  have e2 : (z : Int).tmod 65 = ((z % 65 : Nat) : Int) := by rw [Int.tmod_eq_emod_of_nonneg (by omega)]; simp
  have HG := Lib.hid hg
  have HGB := Lib.hid hg.big
  clear hg
  unfold Good
  go_enter Tryd.func7, Tryd.ntmps7
  go_wp2_with fail
  obtain ⟨T, hT⟩ : ∃ T : Nat, (x : Int) % 8 + 1 = T := ⟨x % 8 + 1, by omega⟩
  obtain ⟨C, hC⟩ : ∃ C : Nat, (y : Int) + 1 = C := ⟨y + 1, by omega⟩
  obtain ⟨B, hB⟩ : ∃ B : Nat, (z : Int) % 65 = B := ⟨z % 65, by omega⟩
  have HO : Hid (Ok T C B) := Lib.hid (by
    have h := ok_small (t := x % 8) (c := y) (b := z % 65) (by omega) (by omega) (by omega)
    rw [show T = x % 8 + 1 by omega, show C = y + 1 by omega, show B = z % 65 by omega]
    exact h)
  rw [hT, hC, hB]
  have hB64 : B ≤ 64 := by omega
  have hT8 : T ≤ 8 := by omega
  have hC256 : C ≤ 256 := by omega
  clear hT hC hB e1 e2
  have A := Lib.hid (At.box (T := T) (C := C) (B := B) HG.out rfl)
  have HC := Lib.hid (check_any T C B _ A.out.g)
  rw [checkI_ok HO.out] at HC
  refine HC.out.mono ?_
  rintro e w1 ⟨rfl, hb⟩
  replace A := Lib.hid (A.out.below hb)
  clear hb HC HG
  obtain ⟨x0, x1, x2⟩ := A.out.x
  have m1 := mk1
  have m2 := mk2
  go_upto_region 7 with fail
  have N : Hid (NS T C B 0 w.heap.size (w1.heap.size + 1 + 1) (w1.heap.size + 1 + 1 + 1) (w1.heap.size + 1 + 1 + 1 + 1) w1.heap.size (w1.heap.size + 1) 0 w (((((w1.alloc (.map #[] 0)).alloc (.map #[] 0)).alloc (.cells #[.map (some w1.heap.size)] 51)).alloc (.cells #[.map (some (w1.heap.size + 1))] 52)).alloc (.cells #[.bool true] 4))) := Lib.hid (by
    have p1 := World.ownsMap_made (H := Unit) w1 Tryd.prog 32 (plainElem (H := Unit) Tryd.prog 4)
    have p2 := World.ownsMap_made (H := Unit) (w1.alloc (.map #[] 0)) Tryd.prog 3 (plainElem (H := Unit) Tryd.prog 9)
    rw [show (w1.alloc (.map #[] 0)).heap.size = w1.heap.size + 1 by simp] at p2
    refine ⟨((((A.out.below (below1 _ _)).below (below1 _ _)).below (below1 _ _)).below (below1 _ _)).below (below1 _ _), ((Box.new _ _ _ (by simp)).alloc _).alloc _, (Box.new _ _ _ (by simp)).alloc _, Box.new _ _ _ (by simp), ⟨_, (((p1.alloc _).alloc _).alloc _).alloc _, MetD.nil _ _ _ _⟩, ⟨_, ((p2.alloc _).alloc _).alloc _, LineD.nil _ _ _⟩, HGB.out, Nat.le_refl _, A.out.lt, by omega, by omega, by omega, by omega⟩)
  obtain ⟨n, hn⟩ : ∃ n, w.heap.size = n := ⟨_, rfl⟩
  obtain ⟨b1, hb1⟩ : ∃ n, w1.heap.size = n := ⟨_, rfl⟩
  obtain ⟨b2, hb2⟩ : ∃ n, b1 + 1 = n := ⟨_, rfl⟩
  obtain ⟨n1, hn1⟩ : ∃ n, b2 + 1 = n := ⟨_, rfl⟩
  obtain ⟨n2, hn2⟩ : ∃ n, n1 + 1 = n := ⟨_, rfl⟩
  obtain ⟨n3, hn3⟩ : ∃ n, n2 + 1 = n := ⟨_, rfl⟩
  rw [hn, hb1, hb2, hn1, hn2, hn3] at N
  rw [hn, hb1, hb2, hn1, hn2, hn3]
  generalize ((((w1.alloc (.map #[] 0)).alloc (.map #[] 0)).alloc (.cells #[.map (some b1)] 51)).alloc (.cells #[.map (some b2)] 52)).alloc (.cells #[.bool true] 4) = W0 at *
  clear A x0 x1 x2 m1 m2 hn hb1 hb2 hn1 hn2 hn3 HGB
  obtain ⟨x0, x1, x2⟩ := N.out.a.x
  have HS := Lib.hid (starts T C B)
  have hN7 : 136 ≤ startL T C B 7 := by have := HS.out; have := HO.out.1; unfold In at this; omega
  have E0 : Hid (unitI T C B 0 0 = 0) := Lib.hid (by rw [unitI_ok HO.out]; simp [unitsL, startL])
  have E1 : Hid (secondI (unitI T C B 0 0) = 1) := Lib.hid (by rw [unitI_ok HO.out]; simp [unitsL, startL, secondI])
  have CA : Hid (∀ W, NS T C B (0) n n1 n2 n3 b1 b2 (0) w W → Calls Tryd.prog 28 #[.int .i64 (0), .string ⟨#[97, 108, 108]⟩, .pointer (some ⟨n, 0, none⟩), .pointer (some ⟨n1, 0, none⟩), .pointer (some ⟨n2, 0, none⟩), .pointer (some ⟨n3, 0, none⟩)] W fun e W' => e = .returned (.tuple #[]) ∧ NS T C B (1) n n1 n2 n3 b1 b2 (0 + 2) w W' ∧ Below w.heap.size w W') := Lib.hid (fun W N => by
    have h := name_any (r' := 1) N (0) HO.out (by omega) (by rw [rank_all T C B 0 (by omega)]; omega) (by rw [rank_all T C B 0 (by omega)]; omega) (by omega) (s := ⟨#[97, 108, 108]⟩) (by rw [own_all T C B 0 (by omega)])
    rw [show ((0 : Nat) : Int) = 0 by omega] at h
    exact h)
  have CB : Hid (∀ W, NS T C B (1) n n1 n2 n3 b1 b2 (0 + 2) w W → Calls Tryd.prog 28 #[.int .i64 (1), .string ⟨#[97, 108, 108]⟩, .pointer (some ⟨n, 0, none⟩), .pointer (some ⟨n1, 0, none⟩), .pointer (some ⟨n2, 0, none⟩), .pointer (some ⟨n3, 0, none⟩)] W fun e W' => e = .returned (.tuple #[]) ∧ NS T C B (1000) n n1 n2 n3 b1 b2 (0 + 2 + 2) w W' ∧ Below w.heap.size w W') := Lib.hid (fun W N => by
    have h := name_any (r' := 1000) N (1) HO.out (by omega) (by rw [rank_all T C B 1 (by omega)]; omega) (by rw [rank_all T C B 1 (by omega)]; omega) (by omega) (s := ⟨#[97, 108, 108]⟩) (by rw [own_all T C B 1 (by omega)])
    rw [show ((1 : Nat) : Int) = 1 by omega] at h
    exact h)
  go_wp2_with fail
  refine (clock_any T C B _ N.out.a.g).mono ?_
  rintro e w5 ⟨rfl, hb⟩
  rw [E0.out]
  replace N := Lib.hid (N.out.below hb)
  clear hb x0 x1 x2
  obtain ⟨x0, x1, x2⟩ := N.out.a.x
  go_wp2_with fail
  refine (CA.out _ N.out).mono ?_
  rintro e w5 ⟨rfl, hns, hb⟩
  replace N := Lib.hid hns
  clear hb hns x0 x1 x2 CA
  obtain ⟨x0, x1, x2⟩ := N.out.a.x
  go_wp2_with fail
  refine (era_any T C B _ N.out.a.g).mono ?_
  rintro e w5 ⟨rfl, hb⟩
  rw [E1.out]
  replace N := Lib.hid (N.out.below hb)
  clear hb x0 x1 x2
  obtain ⟨x0, x1, x2⟩ := N.out.a.x
  go_wp2_with fail
  refine (CB.out _ N.out).mono ?_
  rintro e w5 ⟨rfl, hns, hb⟩
  replace N := Lib.hid hns
  clear hb hns x0 x1 x2 CB
  obtain ⟨x0, x1, x2⟩ := N.out.a.x
  go_wp2_with fail
  clear E0 E1 x0 x1 x2
  go_loopw [12] (fun tv wr => ∃ k : Nat, k ≤ T ∧ tv = .int .i64 ((k : Int) + 1) ∧ NS T C B ((k + 1) * 1000) n n1 n2 n3 b1 b2 (4 + 218 * k) w wr) (fun tv _ => T + 1 - (intOf tv).toNat)
  case atStart => exact ⟨0, by omega, rfl, N.out⟩
  case round =>
    clear N
    obtain ⟨k, hk, rfl, hns⟩ := hrel
    have N := Lib.hid hns
    clear hns
    obtain ⟨x0, x1, x2⟩ := N.out.a.x
    by_cases hlt : k < T
    · obtain ⟨pa, hpa⟩ : ∃ p, p = 8 + 8 * k := ⟨_, rfl⟩
      obtain ⟨pr, hpr⟩ : ∃ p, p = 8 + 8 * T + 8 * k := ⟨_, rfl⟩
      obtain ⟨ps, hps⟩ : ∃ p, p = startL T C B 4 + 104 * k := ⟨_, rfl⟩
      have EA : Hid (threadI T C B 1 ((k : Int) + 1) = (pa : Int)) := Lib.hid (by
        rw [threadI_ok HO.out 1 _ rfl, if_pos (by unfold thr; omega), hpa]; have := HS.out; simp [unitZ]; omega)
      have EH : Hid (secondI (threadI T C B 1 ((k : Int) + 1)) = (pa : Int) + 1) := Lib.hid (by
        rw [EA.out]; unfold secondI; rw [if_neg (by omega)])
      have ER : Hid (threadI T C B 2 ((k : Int) + 1) = (pr : Int)) := Lib.hid (by
        rw [threadI_ok HO.out 2 _ rfl, if_pos (by unfold thr; omega), hpr]; have := HS.out; simp [unitZ]; omega)
      have EZ : Hid (threadI T C B 4 ((k : Int) + 1) = (ps : Int)) := Lib.hid (by
        rw [threadI_ok HO.out 4 _ rfl, if_pos (by unfold thr; omega), hps]; have := HS.out; simp [unitZ]; omega)
      have CA : Hid (∀ W, NS T C B ((k + 1) * 1000) n n1 n2 n3 b1 b2 (4 + 218 * k) w W → Calls Tryd.prog 28 #[.int .i64 ((pa : Int)), .string ⟨#[116, dgt (k + 1)]⟩, .pointer (some ⟨n, 0, none⟩), .pointer (some ⟨n1, 0, none⟩), .pointer (some ⟨n2, 0, none⟩), .pointer (some ⟨n3, 0, none⟩)] W fun e W' => e = .returned (.tuple #[]) ∧ NS T C B ((k + 1) * 1000 + 1) n n1 n2 n3 b1 b2 (4 + 218 * k + 2) w W' ∧ Below w.heap.size w W') := Lib.hid (fun W N => by
        have h := name_any (r' := (k + 1) * 1000 + 1) N (pa) HO.out (by have := HS.out; omega) (by rw [show pa = 8 + 8 * k + 0 by omega, rank_ann T C B k 0 hlt (by omega)]; omega) (by rw [show pa = 8 + 8 * k + 0 by omega, rank_ann T C B k 0 hlt (by omega)]; omega) (by omega) (s := ⟨#[116, dgt (k + 1)]⟩) (by rw [show pa = 8 + 8 * k + 0 by omega, own_ann T C B k 0 hlt (by omega)])
        rw [show ((pa : Nat) : Int) = (pa : Int) by omega] at h
        exact h)
      have CB : Hid (∀ W, NS T C B ((k + 1) * 1000 + 1) n n1 n2 n3 b1 b2 (4 + 218 * k + 2) w W → Calls Tryd.prog 28 #[.int .i64 ((pa : Int) + 1), .string ⟨#[116, dgt (k + 1)]⟩, .pointer (some ⟨n, 0, none⟩), .pointer (some ⟨n1, 0, none⟩), .pointer (some ⟨n2, 0, none⟩), .pointer (some ⟨n3, 0, none⟩)] W fun e W' => e = .returned (.tuple #[]) ∧ NS T C B ((k + 1) * 1000 + 2) n n1 n2 n3 b1 b2 (4 + 218 * k + 2 + 2) w W' ∧ Below w.heap.size w W') := Lib.hid (fun W N => by
        have h := name_any (r' := (k + 1) * 1000 + 2) N (pa + 1) HO.out (by have := HS.out; omega) (by rw [show pa + 1 = 8 + 8 * k + 1 by omega, rank_ann T C B k 1 hlt (by omega)]; omega) (by rw [show pa + 1 = 8 + 8 * k + 1 by omega, rank_ann T C B k 1 hlt (by omega)]; omega) (by omega) (s := ⟨#[116, dgt (k + 1)]⟩) (by rw [show pa + 1 = 8 + 8 * k + 1 by omega, own_ann T C B k 1 hlt (by omega)])
        rw [show ((pa + 1 : Nat) : Int) = (pa : Int) + 1 by omega] at h
        exact h)
      have CR : Hid (∀ i : Nat, i < 3 → ∀ W, NS T C B ((k + 1) * 1000 + 2 + i) n n1 n2 n3 b1 b2 (4 + 218 * k + 4 + 2 * i) w W → Calls Tryd.prog 28 #[.int .i64 ((pr : Int) + (i : Int)), .string ⟨#[116, dgt (k + 1)]⟩, .pointer (some ⟨n, 0, none⟩), .pointer (some ⟨n1, 0, none⟩), .pointer (some ⟨n2, 0, none⟩), .pointer (some ⟨n3, 0, none⟩)] W fun e W' => e = .returned (.tuple #[]) ∧ NS T C B ((k + 1) * 1000 + 2 + (i + 1)) n n1 n2 n3 b1 b2 (4 + 218 * k + 4 + 2 * (i + 1)) w W' ∧ Below w.heap.size w W') := Lib.hid (fun i hi W N => by
        have h := name_any (r' := (k + 1) * 1000 + 2 + (i + 1)) N (pr + i) HO.out (by have := HS.out; omega) (by rw [hpr, rank_rec T C B k i hlt (by omega)]; omega) (by rw [hpr, rank_rec T C B k i hlt (by omega)]; omega) (by omega) (s := ⟨#[116, dgt (k + 1)]⟩) (by rw [hpr, own_rec T C B k i hlt (by omega)])
        rw [Int.natCast_add] at h
        exact h)
      have CS : Hid (∀ i : Nat, i < 104 → ∀ W, NS T C B ((k + 1) * 1000 + 10 + i) n n1 n2 n3 b1 b2 (4 + 218 * k + 10 + 2 * i) w W → Calls Tryd.prog 28 #[.int .i64 ((ps : Int) + (i : Int)), .string ⟨#[116, dgt (k + 1)]⟩, .pointer (some ⟨n, 0, none⟩), .pointer (some ⟨n1, 0, none⟩), .pointer (some ⟨n2, 0, none⟩), .pointer (some ⟨n3, 0, none⟩)] W fun e W' => e = .returned (.tuple #[]) ∧ NS T C B ((k + 1) * 1000 + 10 + (i + 1)) n n1 n2 n3 b1 b2 (4 + 218 * k + 10 + 2 * (i + 1)) w W' ∧ Below w.heap.size w W') := Lib.hid (fun i hi W N => by
        have h := name_any (r' := (k + 1) * 1000 + 10 + (i + 1)) N (ps + i) HO.out (by have := HS.out; omega) (by rw [hps, rank_slot T C B k i hlt (by omega)]; omega) (by rw [hps, rank_slot T C B k i hlt (by omega)]; omega) (by omega) (s := ⟨#[116, dgt (k + 1)]⟩) (by rw [hps, own_slot T C B k i hlt (by omega)])
        rw [Int.natCast_add] at h
        exact h)
      have hpN1 : pa ≤ 5200 := by omega
      have hpN2 : pr ≤ 5200 := by omega
      have hpN3 : ps ≤ 5200 := by have := HS.out; omega
      clear hpa hpr hps
      have cv := conv2 116 (48 + ((k : Int) + 1)) (k + 1) (by omega) (by omega)
      go_upto_region 13 with fail
      replace N := Lib.hid (N.out.below (below1 wr (.cells #[.int .u8 116, .int .u8 (48 + ((k : Int) + 1))] 5)))
      generalize wr.alloc (.cells #[.int .u8 116, .int .u8 (48 + ((k : Int) + 1))] 5) = W1 at *
      clear x0 x1 x2 cv
      obtain ⟨x0, x1, x2⟩ := N.out.a.x
      go_wp2_with fail
      refine (announce_any T C B ((k : Int) + 1) _ N.out.a.g (by omega)).mono ?_
      rintro e w5 ⟨rfl, hb⟩
      rw [EA.out]
      replace N := Lib.hid (N.out.below hb)
      clear hb x0 x1 x2
      obtain ⟨x0, x1, x2⟩ := N.out.a.x
      go_wp2_with fail
      refine (CA.out _ N.out).mono ?_
      rintro e w5 ⟨rfl, hns, hb⟩
      replace N := Lib.hid hns
      clear hb hns x0 x1 x2 CA
      obtain ⟨x0, x1, x2⟩ := N.out.a.x
      go_wp2_with fail
      refine (hazard_any T C B ((k : Int) + 1) _ N.out.a.g (by omega)).mono ?_
      rintro e w5 ⟨rfl, hb⟩
      rw [EH.out]
      replace N := Lib.hid (N.out.below hb)
      clear hb x0 x1 x2
      obtain ⟨x0, x1, x2⟩ := N.out.a.x
      go_wp2_with fail
      refine (CB.out _ N.out).mono ?_
      rintro e w5 ⟨rfl, hns, hb⟩
      replace N := Lib.hid hns
      clear hb hns x0 x1 x2 CB
      obtain ⟨x0, x1, x2⟩ := N.out.a.x
      go_wp2_with fail
      clear EA EH x0 x1 x2
      have hd : decide ((k : Int) + 1 ≤ (T : Int)) = true := decide_eq_true (by omega)
      try rw [hd]
      clear hd
      go_loopw [75] (fun tv wr => ∃ i : Nat, i ≤ 3 ∧ tv = .int .i64 i ∧ NS T C B ((k + 1) * 1000 + 2 + i) n n1 n2 n3 b1 b2 (4 + 218 * k + 4 + 2 * i) w wr) (fun tv _ => 3 - (intOf tv).toNat)
      case atStart => exact ⟨0, by omega, rfl, N.out⟩
      case round =>
        clear N
        obtain ⟨i, hi, rfl, hns⟩ := hrel
        have N := Lib.hid hns
        clear hns
        obtain ⟨x0, x1, x2⟩ := N.out.a.x
        by_cases hil : i < 3
        · have CI := Lib.hid (CR.out i hil)
          go_wp2_with fail
          refine (record_any T C B ((k : Int) + 1) _ N.out.a.g (by omega)).mono ?_
          rintro e w5 ⟨rfl, hb⟩
          rw [ER.out]
          replace N := Lib.hid (N.out.below hb)
          clear hb x0 x1 x2
          obtain ⟨x0, x1, x2⟩ := N.out.a.x
          go_wp2_with fail
          refine (CI.out _ N.out).mono ?_
          rintro e w5 ⟨rfl, hns, hb⟩
          replace N := Lib.hid hns
          clear hb hns x0 x1 x2 CI
          obtain ⟨x0, x1, x2⟩ := N.out.a.x
          go_wp2_with fail
          go_roundw
          case rel => exact ⟨i + 1, by omega, by go_num, N.out⟩
          case measure => simp [intOf]; omega
        · go_wp2_with fail
          clear x0 x1 x2
          have N2 := Lib.hid (NS.lift (r' := (k + 1) * 1000 + 10 + 0) N.out (by omega))
          have ei : 4 + 218 * k + 4 + 2 * i = 4 + 218 * k + 10 + 2 * 0 := by omega
          rw [ei] at N2
          clear N ei
          go_loopw [87] (fun tv wr => ∃ j : Nat, j ≤ 104 ∧ tv = .int .i64 j ∧ NS T C B ((k + 1) * 1000 + 10 + j) n n1 n2 n3 b1 b2 (4 + 218 * k + 10 + 2 * j) w wr) (fun tv _ => 104 - (intOf tv).toNat)
          case atStart => exact ⟨0, by omega, rfl, N2.out⟩
          case round =>
            clear N2
            obtain ⟨j, hj, rfl, hns⟩ := hrel
            have N := Lib.hid hns
            clear hns
            obtain ⟨x0, x1, x2⟩ := N.out.a.x
            by_cases hjl : j < 104
            · have CI := Lib.hid (CS.out j hjl)
              go_wp2_with fail
              refine (slot_any T C B ((k : Int) + 1) _ N.out.a.g (by omega)).mono ?_
              rintro e w5 ⟨rfl, hb⟩
              rw [EZ.out]
              replace N := Lib.hid (N.out.below hb)
              clear hb x0 x1 x2
              obtain ⟨x0, x1, x2⟩ := N.out.a.x
              go_wp2_with fail
              refine (CI.out _ N.out).mono ?_
              rintro e w5 ⟨rfl, hns, hb⟩
              replace N := Lib.hid hns
              clear hb hns x0 x1 x2 CI
              obtain ⟨x0, x1, x2⟩ := N.out.a.x
              go_wp2_with fail
              go_roundw
              case rel => exact ⟨j + 1, by omega, by go_num, N.out⟩
              case measure => simp [intOf]; omega
            · go_wp2_with fail
              go_roundw
              case rel => exact ⟨k + 1, by omega, by go_num, by have h := NS.lift (r' := (k + 1 + 1) * 1000) N.out (by omega); rw [show 4 + 218 * k + 10 + 2 * j = 4 + 218 * (k + 1) by omega] at h; exact h⟩
              case measure => simp [intOf]; omega
    · have N2 := Lib.hid (NS.lift (r' := 10000 + 0) N.out (by omega))
      have ei : 4 + 218 * k = 4 + 218 * T + 2 * 0 := by omega
      rw [ei] at N2
      clear N ei
      go_wp2_with fail
      clear x0 x1 x2 hlt hk
      have HCell : Hid (∀ i : Nat, i < C → cellI T C B (i : Int) = ((8 + 16 * T : Nat) : Int) + (i : Int)) := Lib.hid (fun i hi => by
        rw [cellI_ok HO.out, if_pos (by omega)]; have := HS.out; omega)
      have CC : Hid (∀ i : Nat, i < C → ∀ W, NS T C B (10000 + i) n n1 n2 n3 b1 b2 (4 + 218 * T + 2 * i) w W → Calls Tryd.prog 28 #[.int .i64 (((8 + 16 * T : Nat) : Int) + (i : Int)), .string ⟨#[99, 101, 108, 108, 115]⟩, .pointer (some ⟨n, 0, none⟩), .pointer (some ⟨n1, 0, none⟩), .pointer (some ⟨n2, 0, none⟩), .pointer (some ⟨n3, 0, none⟩)] W fun e W' => e = .returned (.tuple #[]) ∧ NS T C B (10000 + (i + 1)) n n1 n2 n3 b1 b2 (4 + 218 * T + 2 * (i + 1)) w W' ∧ Below w.heap.size w W') := Lib.hid (fun i hi W N => by
        have h := name_any (r' := 10000 + (i + 1)) N (8 + 16 * T + i) HO.out (by have := HS.out; omega) (by rw [rank_cell T C B i hi]; omega) (by rw [rank_cell T C B i hi]; omega) (by omega) (s := ⟨#[99, 101, 108, 108, 115]⟩) (by rw [own_cell T C B i hi])
        rw [Int.natCast_add] at h
        exact h)
      have HBk : Hid (∀ i : Nat, i < B → unitI T C B 6 (i : Int) = ((startL T C B 6 + 32 * i : Nat) : Int)) := Lib.hid (fun i hi => by
        rw [unitI_ok HO.out, if_pos (by simp [unitsL]; omega)]; simp [unitZ]; omega)
      have HBt : Hid (∀ i : Nat, i < B → ∃ p q : Nat, bitsI T C B (i : Int) = ((p : Int), (q : Int)) ∧ 0 < q) := Lib.hid (fun i hi => by
        refine ⟨startL T C B 5 + i / 32, 2 ^ (i % 32), ?_, Nat.pos_of_ne_zero (by simp)⟩
        unfold bitsI
        rw [HBk.out i hi, if_neg (by omega)]
        simp)
      have CK : Hid (∀ i j : Nat, i < B → j < 32 → ∀ W, NS T C B (20000 + 32 * i + j) n n1 n2 n3 b1 b2 (4 + 218 * T + 2 * C + 64 * i + 2 * j) w W → Calls Tryd.prog 28 #[.int .i64 (((startL T C B 6 + 32 * i : Nat) : Int) + (j : Int)), .string ⟨#[98, dgt i]⟩, .pointer (some ⟨n, 0, none⟩), .pointer (some ⟨n1, 0, none⟩), .pointer (some ⟨n2, 0, none⟩), .pointer (some ⟨n3, 0, none⟩)] W fun e W' => e = .returned (.tuple #[]) ∧ NS T C B (20000 + 32 * i + (j + 1)) n n1 n2 n3 b1 b2 (4 + 218 * T + 2 * C + 64 * i + 2 * (j + 1)) w W' ∧ Below w.heap.size w W') := Lib.hid (fun i j hi hj W N => by
        have h := name_any (r' := 20000 + 32 * i + (j + 1)) N (startL T C B 6 + 32 * i + j) HO.out (by have := HS.out; omega) (by rw [rank_block T C B i j hi hj]; omega) (by rw [rank_block T C B i j hi hj]; omega) (by omega) (s := ⟨#[98, dgt i]⟩) (by rw [own_block T C B i j hi hj])
        rw [Int.natCast_add] at h
        exact h)
      have h816 : 8 + 16 * T ≤ 5200 := by omega
      have h6 : startL T C B 6 ≤ 5200 := by have := HS.out; omega
      generalize hc0 : 8 + 16 * T = c0 at HCell CC h816
      clear hc0
      go_loopw [101] (fun tv wr => ∃ i : Nat, i ≤ C ∧ tv = .int .i64 i ∧ NS T C B (10000 + i) n n1 n2 n3 b1 b2 (4 + 218 * T + 2 * i) w wr) (fun tv _ => C - (intOf tv).toNat)
      case atStart => exact ⟨0, by omega, rfl, N2.out⟩
      case round =>
        clear N2
        obtain ⟨i, hi, rfl, hns⟩ := hrel
        have N := Lib.hid hns
        clear hns
        obtain ⟨x0, x1, x2⟩ := N.out.a.x
        by_cases hil : i < C
        · have CI := Lib.hid (CC.out i hil)
          have EC := Lib.hid (HCell.out i hil)
          go_wp2_with fail
          refine (cell_any T C B i _ N.out.a.g).mono ?_
          rintro e w5 ⟨rfl, hb⟩
          rw [EC.out]
          replace N := Lib.hid (N.out.below hb)
          clear hb x0 x1 x2
          obtain ⟨x0, x1, x2⟩ := N.out.a.x
          go_wp2_with fail
          refine (CI.out _ N.out).mono ?_
          rintro e w5 ⟨rfl, hns, hb⟩
          replace N := Lib.hid hns
          clear hb hns x0 x1 x2 CI
          obtain ⟨x0, x1, x2⟩ := N.out.a.x
          go_wp2_with fail
          go_roundw
          case rel => exact ⟨i + 1, by omega, by go_num, N.out⟩
          case measure => simp [intOf]; omega
        · have N2 := Lib.hid (NS.lift (r' := 20000 + 32 * 0) N.out (by omega))
          have ei : 4 + 218 * T + 2 * i = 4 + 218 * T + 2 * C + 64 * 0 := by omega
          rw [ei] at N2
          clear N ei
          go_wp2_with fail
          clear x0 x1 x2 hil hi
          go_loopw [112] (fun tv wr => ∃ i : Nat, i ≤ B ∧ tv = .int .i64 i ∧ NS T C B (20000 + 32 * i) n n1 n2 n3 b1 b2 (4 + 218 * T + 2 * C + 64 * i) w wr) (fun tv _ => B - (intOf tv).toNat)
          case atStart => exact ⟨0, by omega, rfl, N2.out⟩
          case round =>
            clear N2
            obtain ⟨i, hi, rfl, hns⟩ := hrel
            have N := Lib.hid hns
            clear hns
            obtain ⟨x0, x1, x2⟩ := N.out.a.x
            by_cases hil : i < B
            · obtain ⟨bp, bq, hbt, hq0⟩ := HBt.out i hil
              have EBT := Lib.hid hbt
              have hq1 : (0 : Int) < bq := by omega
              clear hbt
              go_wp2_with fail
              refine (bits_any T C B i _ N.out.a.g).mono ?_
              rintro e w5 ⟨rfl, hb⟩
              rw [EBT.out]
              replace N := Lib.hid (N.out.below hb)
              clear hb x0 x1 x2
              obtain ⟨x0, x1, x2⟩ := N.out.a.x
              have y3 := N.out.c3.cell 0
              have f3 := N.out.c3.free 0
              simp only [List.getElem?_toArray, List.getElem?_cons_zero] at y3
              go_wp2_with fail
              replace N := Lib.hid N.out.put
              generalize w5.setCell ⟨n3, 0, none⟩ (.bool true) = W5 at *
              clear x0 x1 x2 y3 f3
              have EK := Lib.hid (HBk.out i hil)
              have hk6 : startL T C B 6 + 32 * i ≤ 8000 := by omega
              have CJ := Lib.hid (fun j hj => CK.out i j hil hj)
              generalize hk0 : startL T C B 6 + 32 * i = kp at EK CJ hk6
              clear hk0
              go_loopw [130] (fun tv wr => ∃ j : Nat, j ≤ 32 ∧ tv = .int .i64 j ∧ NS T C B (20000 + 32 * i + j) n n1 n2 n3 b1 b2 (4 + 218 * T + 2 * C + 64 * i + 2 * j) w wr) (fun tv _ => 32 - (intOf tv).toNat)
              case atStart => exact ⟨0, by omega, rfl, N.out⟩
              case round =>
                clear N
                obtain ⟨j, hj, rfl, hns⟩ := hrel
                have N := Lib.hid hns
                clear hns
                obtain ⟨x0, x1, x2⟩ := N.out.a.x
                by_cases hjl : j < 32
                · have CI := Lib.hid (CJ.out j hjl)
                  go_wp2_with fail
                  have i1 := N.out.below ((Below.refl wr.heap.size wr).drew)
                  have cv := conv2 98 (48 + (i : Int)) i (by omega) rfl
                  have hv1 : IntKind.i64.wrap (48 + (i : Int)) = 48 + (i : Int) := IntWalk.i64_in _ (by omega)
                  have hv2 : IntKind.u8.wrap (48 + (i : Int)) = 48 + (i : Int) := IntWalk.u8_in _ (by omega)
                  have hv3 : IntKind.i64.wrap ((kp : Int) + (j : Int)) = (kp : Int) + (j : Int) := IntWalk.i64_in _ (by omega)
                  obtain ⟨v0, v1, v2⟩ := (N.out.below (below1 wr (.cells #[.int .u8 98, .int .u8 (48 + (i : Int))] 5))).a.x
                  have BK := Lib.hid (fun W hW => block_any T C B i W hW)
                  rw [EK.out] at BK
                  go_region_law (first
                    | (go_simp; go_at_call 24; (with_reducible refine (BK.out _ i1.a.g).mono ?_); rintro e w6 ⟨rfl, hb⟩; have i2 := i1.below hb; clear hb i1; have i1 := i2; clear i2; obtain ⟨z0, z1, z2⟩ := i1.a.x)
                    | (go_simp; go_at_call 24; (with_reducible refine (BK.out _ ((N.out.below (below1 _ _)).below (Below.refl _ _).drew).a.g).mono ?_); rintro e w6 ⟨rfl, hb⟩; have zc0 := (hb.cell (p := ⟨wr.heap.size, 0, none⟩) (by simp)).trans (show _ = some (.int .u8 98) by simp [go_sem]); have zc1 := (hb.cell (p := ⟨wr.heap.size, 1, none⟩) (by simp)).trans (show _ = some (.int .u8 (48 + (i : Int))) by simp [go_sem]); have i2 := ((N.out.below (below1 _ _)).below (Below.refl _ _).drew).below hb; clear hb i1; have i1 := i2; clear i2)
                    | (go_simp; go_at_call 28; (with_reducible refine (CI.out _ i1).mono ?_); rintro e w7 ⟨rfl, hns, hb7⟩; have NN := Lib.hid hns; clear hns hb7)
                    | (go_simp; go_at_call 28; (with_reducible refine (CI.out _ (i1.below (below1 _ _))).mono ?_); rintro e w7 ⟨rfl, hns, hb7⟩; have NN := Lib.hid hns; clear hns hb7))
                  all_goals (
                    go_wp2_with fail
                    go_roundw
                    case rel => exact ⟨j + 1, by omega, by go_num, NN.out⟩
                    case measure => simp [intOf]; omega)
                · go_wp2_with fail
                  go_roundw
                  case rel => exact ⟨i + 1, by omega, by go_num, by have h := NS.lift (r' := 20000 + 32 * (i + 1)) N.out (by omega); rw [show 4 + 218 * T + 2 * C + 64 * i + 2 * j = 4 + 218 * T + 2 * C + 64 * (i + 1) by omega] at h; exact h⟩
                  case measure => simp [intOf]; omega
            · obtain ⟨x0, x1, x2⟩ := N.out.a.x
              go_wp2_with fail
              refine (awake_any _ N.out.a.g).mono ?_
              rintro e w6 ⟨rfl, hb⟩
              replace N := Lib.hid (N.out.below hb)
              clear hb x0 x1 x2
              have y3 := N.out.c3.cell 0
              simp only [List.getElem?_toArray, List.getElem?_cons_zero] at y3
              go_wp2_with fail
              go_ret
              exact ⟨rfl, N.out.a.b⟩
theorem walk (x y z : Int) (w : World) (hg : Gl w) (hx : 0 ≤ x) (hy : 0 ≤ y) (hz : 0 ≤ z) (hx2 : x < 256) (hy2 : y < 256) (hz2 : z < 256) : Calls Tryd.prog 7 #[.int .u8 x, .int .u8 y, .int .u8 z] w (Good w) := by
  obtain ⟨a, rfl⟩ : ∃ a : Nat, x = a := ⟨x.toNat, by omega⟩
  obtain ⟨b, rfl⟩ : ∃ b : Nat, y = b := ⟨y.toNat, by omega⟩
  obtain ⟨c, rfl⟩ : ∃ c : Nat, z = c := ⟨z.toNat, by omega⟩
  exact walk_nat a b c w hg (by omega) (by omega) (by omega)
end Go.Proofs.YtgndlknlahglcaaDoor.layoutApart
