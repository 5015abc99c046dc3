/- The law's memory: the first words with some replaced. -/
import Derived.Test.YtfegeahieajmkaaDoorDsMem
import Derived.Test.YtfegeahieajmkaaDoorDsFirst
import Derived.Deep.DeepCutAuto
import Derived.Shelf.RegionOpenPlain
namespace Go.Proofs.YtfegeahieajmkaaDoor
open Go.ChangeShapes Go.WideShapes Go.ChangeAt Go.RowKit Go.Maps
open Lay (startL checkI placeI mayI sizeI Ok starts checkI_ok)
/-- Where a word to be stored goes in a memory of n words. -/
def putAt (n : Nat) (p : Int × Wd) : Nat := p.1.toNat % n
set_option maxRecDepth 100000 in
set_option maxHeartbeats 6400000 in
theorem memory_any (T C B : Nat) (vp : Value) (P : List (Int × Wd)) (w : World) (hg : Lay.Gl w) (hok : Ok T C B) (hp : PS w vp P) (hP : ∀ p ∈ P, OkP p) (hk : P.length ≤ 1000) : Calls Tryd.prog 29 #[.agg #[.int .i64 T, .int .i64 C, .int .i64 B], vp] w fun e w' => ∃ g, e = .returned (.slice (some ⟨g, 0, none⟩) (startL T C B 7) (startL T C B 7)) ∧ RowK wdE 47 w.heap.size w' (.slice (some ⟨g, 0, none⟩) (startL T C B 7) (startL T C B 7)) (putsM (putAt (startL T C B 7)) (firstL T C B) P P.length) ∧ Below w.heap.size w w' := by
  have HG := Lib.hid hg
  have HP := Lib.hid hp
  have HPO := Lib.hid hP
  have FI := Lib.hid (fun W h => Lay.first_ok T C B W h hok)
  have FL := Lib.hid (firstL_len T C B)
  have h0 : 2 ≤ startL T C B 7 := by have := starts T C B; omega
  have h5 := Lay.startL_le T C B hok.1 7 (by omega)
  obtain ⟨pa1, pcp, rfl, hpcap⟩ := hp.form
  obtain ⟨kp, hkp⟩ : ∃ n, P.length = n := ⟨_, rfl⟩
  rw [hkp] at HP hpcap hk ⊢
  have HK := Lib.hid hkp
  have FF := Lib.hid (show ((List.range (startL T C B 7)).map fun i => (Lay.fv T C B T B i, (0 : Int), (0 : Int))) = firstL T C B from rfl)
  obtain ⟨pn, hpn⟩ : ∃ n, startL T C B 7 = n := ⟨_, rfl⟩
  rw [hpn] at FI FL h0 h5 FF ⊢
  clear hpn hp hkp hg hok hP hpcap
  obtain ⟨M, hM⟩ : ∃ M, firstL T C B = M := ⟨_, rfl⟩
  rw [hM] at FL FF ⊢
  clear hM
  have F0 := Lib.hid (show putsM (putAt pn) M P 0 = M from rfl)
  have F1 := Lib.hid (fun j => show putsM (putAt pn) M P (j + 1) = (putsM (putAt pn) M P j).set (P[j]!.1.toNat % pn) (P[j]!).2 from rfl)
  have F3 := Lib.hid (fun j => (putsM_len (putAt pn) M P j).trans FL.out)
  obtain ⟨F, hF⟩ : ∃ F : Nat → List Wd, (fun k => putsM (putAt pn) M P k) = F := ⟨_, rfl⟩
  have hF' : ∀ k, putsM (putAt pn) M P k = F k := fun k => by rw [← hF]
  simp only [hF'] at F0 F1 F3 ⊢
  clear hF hF'
  go_enter Tryd.func29, Tryd.ntmps29
  go_upto_region 1 with fail
  have BB := Lib.hid (below1 w (.cells #[.int .i64 T, .int .i64 C, .int .i64 B] 29))
  have L2 := Lib.hid (Box.new w #[.int .i64 T, .int .i64 C, .int .i64 B] 29 rfl)
  replace HG := Lib.hid (HG.out.below BB.out)
  generalize w.alloc (.cells #[.int .i64 T, .int .i64 C, .int .i64 B] 29) = W at *
  generalize hq : w.heap.size = q at L2 ⊢
  clear hq
  have x0 := L2.out.cell 0
  have x1 := L2.out.cell 1
  have x2 := L2.out.cell 2
  simp at x0 x1 x2
  go_wp2_with fail
  refine (FI.out _ HG.out).mono ?_
  rintro e w4 ⟨g, rfl, hgg, hr, hb⟩
  have R := Lib.hid (row_of_fi hr (Nat.le_trans BB.out.size hgg) (by omega))
  rw [FF.out] at R
  replace BB := Lib.hid (BB.out.trans (hb.mono BB.out.size))
  clear x0 x1 x2 hb hr hgg FI L2 HG FF FL
  go_wp2_with fail
  go_loopw [6] (fun iv wr => ∃ j : Nat, j ≤ kp ∧ iv = .int .i64 j ∧ RowK wdE 47 w.heap.size wr (.slice (some ⟨g, 0, none⟩) pn pn) (F j) ∧ Below w.heap.size w wr) (fun iv _ => kp - (intOf iv).toNat)
  case atStart => exact ⟨0, by omega, rfl, by rw [F0.out]; exact R.out, BB.out⟩
  case round =>
    obtain ⟨j, hj, rfl, h1, h2⟩ := hrel
    clear R BB
    have R := Lib.hid h1
    have BB := Lib.hid h2
    clear h1 h2
    have g0 : (0 : Int) < (pn : Int) := by omega
    have g1 : ¬ pn = 0 := by omega
    have g2 : ¬ (pn : Int) = 0 := by omega
    by_cases hlt : j < kp
    · have FZ := Lib.hid (F1.out j)
      obtain ⟨pb, poff, rfl, hpb, hpl, hc⟩ := HP.out.addr hlt
      obtain ⟨c0, c1, c2, c3⟩ := pt_cells hc (by rw [hpl]; exact hlt)
      rw [← BB.out.cell (p := ⟨pb, _, none⟩) hpb] at c0 c1 c2 c3
      have OP := Lib.hid (HPO.out _ (mem_at (L := P) (k := j) (by rw [HK.out]; exact hlt)))
      clear hc hpl hpb
      obtain ⟨z, hz⟩ : ∃ z, P[j]! = z := ⟨_, rfl⟩
      rw [hz] at c0 c1 c2 c3 OP FZ
      clear hz
      obtain ⟨o, z0, z1, z2⟩ := z
      simp only at c0 c1 c2 c3 OP FZ
      go_upto_region 5 with fail
      obtain ⟨⟨hp1, hp2⟩, -⟩ := OP.out
      simp only at hp1 hp2
      obtain ⟨o, rfl⟩ : ∃ k : Nat, o = k := ⟨o.toNat, by omega⟩
      rw [Int.toNat_natCast] at FZ
      have m1 : (o : Int).tmod (pn : Int) = ((o % pn : Nat) : Int) := by rw [Int.tmod_eq_emod_of_nonneg (by omega)]; simp
      have m2 : (o : Int) % (pn : Int) = ((o % pn : Nat) : Int) := by simp
      have r1 : o % pn < pn := Nat.mod_lt _ (by omega)
      obtain ⟨x, hx⟩ : ∃ x, o % pn = x := ⟨_, rfl⟩
      rw [hx] at m1 m2 r1 FZ
      clear hx
      have hpj : x < (F j).length := by rw [F3.out]; omega
      obtain ⟨⟨d0, d1, d2⟩, f0, f1, f2⟩ := R.out.at3 (i := x) hpj
      have q7 : IntKind.i64.wrap (o : Int) = (o : Int) := IntWalk.i64_in _ (by omega)
      have q8 : IntKind.i64.wrap (x : Int) = (x : Int) := IntWalk.i64_in _ (by omega)
      have mixed : Tryd.prog.follows Departure.mixedOrders = true := by kernel_rfl
      go_big_region_o
      go_wp2_with fail
      go_roundw
      case rel => exact ⟨j + 1, by omega, by go_num, by rw [FZ.out]; exact (R.out.put3 hpj z0 z1 z2).below ((Below.refl _ _).drew), (R.out.put3Below BB.out x z0 z1 z2).drew⟩
      case measure => simp [intOf]; omega
    obtain rfl : j = kp := by omega
    go_wp2_with fail
    go_ret
    exact ⟨_, rfl, R.out, BB.out⟩
end Go.Proofs.YtfegeahieajmkaaDoor
