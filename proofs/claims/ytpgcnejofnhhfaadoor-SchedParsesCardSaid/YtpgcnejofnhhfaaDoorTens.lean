/- The reference's tens: the decimal form of a number. -/
import Derived.Test.YtpgcnejofnhhfaaDoorApp
import Derived.Laws.IdiomStrings
namespace Go.Proofs.YtpgcnejofnhhfaaDoor
open Go.ChangeShapes Go.WideShapes Go.ChangeAt Go.RowKit

/-- The digit d. -/
def dgt (d : Nat) : UInt8 := UInt8.ofNat (48 + d)
theorem dgt_nat (d : Nat) (h : d < 10) : ((dgt d).toNat : Int) = 48 + (d : Int) := by
  have : (dgt d).toNat = 48 + d := by
    unfold dgt
    rw [UInt8.toNat_ofNat']
    omega
  omega
theorem conv1 (d : Nat) (hd : d < 10) (w : World) (b : Nat) (h : w.cell? ⟨b, 0, none⟩ = some (.int .u8 (48 + (d : Int)))) : (convert 56 9 (.slice (some ⟨b, 0, none⟩) 1 1)).run Tryd.prog w = .ok (.string ⟨#[dgt d]⟩) w :=
  run_convert_bytes_back (P := Tryd.prog) w 56 9 5 ⟨b, 0, none⟩ 1 [dgt d] Tryd.underlying56 Tryd.underlying5 Tryd.underlying9 (fun j hj => by
    obtain rfl : j = 0 := by simpa using hj
    simp only [List.getElem_cons_zero]
    rw [dgt_nat d hd]; exact h)
theorem itoa_small (d : Nat) (h : d < 10) : Lib.itoa d = [dgt d] := by unfold Lib.itoa dgt; rw [if_neg (by omega), Int.toNat_natCast, Lib.decDigits, dif_pos h]
theorem itoa_big (n : Nat) (h : ¬ n < 10) : Lib.itoa n = Lib.itoa ((n / 10 : Nat) : Int) ++ [dgt (n % 10)] := by
  unfold Lib.itoa dgt; rw [if_neg (by omega), if_neg (by omega), Int.toNat_natCast, Int.toNat_natCast, Lib.decDigits, dif_neg h]
theorem itoa_neg (n : Nat) (h : 0 < n) : Lib.itoa (-(n : Int)) = 45 :: Lib.itoa n := by
  unfold Lib.itoa; rw [if_pos (by omega), if_neg (by omega)]; simp
theorem cat (a b : List UInt8) : (ByteArray.mk a.toArray) ++ (ByteArray.mk b.toArray) = ⟨(a ++ b).toArray⟩ := by simp [ByteArray.mk_append_mk]
def TensP (n : Int) (w : World) (e : Ending) (w' : World) : Prop := e = .returned (.string ⟨(Lib.itoa n).toArray⟩) ∧ Below w.heap.size w w'
set_option maxRecDepth 100000 in
theorem tens_small (d : Nat) (w : World) (h : d < 10) : Calls Tryd.prog 31 #[.int .i64 d] w (TensP d w) := by
  have h1 : ¬ (d : Int) < 0 := by omega
  have h2 : (d : Int) < 10 := by omega
  have hc := conv1 d h (w.alloc (.cells #[.int .u8 (48 + (d : Int))] 5)) w.heap.size (by simp [go_sem])
  have HI := Lib.hid (itoa_small d h)
  go_enter Tryd.func31, Tryd.ntmps31
  go_wp2_with fail
  go_ret
  refine ⟨?_, below1 _ _⟩
  rw [HI.out]; rfl
set_option maxRecDepth 100000 in
set_option maxHeartbeats 800000 in
theorem tens_big (n q d : Nat) (w : World) (h : 10 ≤ n) (h2 : n < 9223372036854775808) (hq : q = n / 10) (hd : d = n % 10) (ih : ∀ W, Calls Tryd.prog 31 #[.int .i64 (q : Int)] W (TensP q W)) : Calls Tryd.prog 31 #[.int .i64 n] w (TensP n w) := by
  have HI := Lib.hid (show Lib.itoa n = Lib.itoa q ++ [dgt d] by rw [hq, hd]; exact itoa_big n (by omega))
  have HD := Lib.hid (itoa_small d (by omega))
  have h1 : ¬ (n : Int) < 0 := by omega
  have h3 : ¬ (n : Int) < 10 := by omega
  have hd9 : d < 10 := by omega
  have hil : (Lib.itoa (q : Int)).length ≤ 21 := itoa_le (by unfold I64; omega)
  have k1 : (n : Int) / 10 = (q : Int) := by omega
  have k3 : (n : Int) % 10 = (d : Int) := by omega
  have hs : (⟨(Lib.itoa (q : Int)).toArray⟩ : ByteArray).size + (⟨#[dgt d]⟩ : ByteArray).size ≤ 9223372036854775807 := by simp only [ByteArray.size, List.size_toArray]; show _ + 1 ≤ _; omega
  have hs2 : (Lib.itoa (q : Int)).length + 1 ≤ 9223372036854775807 := by omega
  clear hq hd
  have IH := Lib.hid ih
  clear ih hil
  go_enter Tryd.func31, Tryd.ntmps31
  go_wp2_with fail
  refine (IH.out _).mono ?_
  rintro e w1 ⟨rfl, hb1⟩
  have BB := Lib.hid hb1
  clear hb1
  go_wp2_with fail
  refine (tens_small d _ hd9).mono ?_
  rintro e w2 ⟨rfl, hb2⟩
  replace BB := Lib.hid (BB.out.trans (hb2.mono BB.out.size))
  clear hb2
  rw [HD.out]
  go_wp2_with fail
  go_ret
  refine ⟨?_, BB.out⟩
  rw [HI.out, ← cat]; rfl
theorem tens_nat (n : Nat) : ∀ w, n < 9223372036854775808 → Calls Tryd.prog 31 #[.int .i64 n] w (TensP n w) := by
  induction n using Nat.strongRecOn with
  | ind n ih =>
    intro w hn
    by_cases h : n < 10
    · exact tens_small n w h
    · exact tens_big n (n / 10) (n % 10) w (by omega) hn rfl rfl (fun W => ih (n / 10) (by omega) W (by omega))
set_option maxRecDepth 100000 in
theorem tens_neg (m : Nat) (w : World) (h : 0 < m) (h2 : m < 9223372036854775808) : Calls Tryd.prog 31 #[.int .i64 (-(m : Int))] w (TensP (-(m : Int)) w) := by
  have HI := Lib.hid (itoa_neg m h)
  have h1 : -(m : Int) < 0 := by omega
  have k1 : (0 : Int) - -(m : Int) = (m : Int) := by omega
  have hil : (Lib.itoa (m : Int)).length ≤ 21 := itoa_le (by unfold I64; omega)
  have hs : (⟨#[45]⟩ : ByteArray).size + (⟨(Lib.itoa (m : Int)).toArray⟩ : ByteArray).size ≤ 9223372036854775807 := by simp only [ByteArray.size, List.size_toArray]; show 1 + _ ≤ _; omega
  have hs2 : 1 + (Lib.itoa (m : Int)).length ≤ 9223372036854775807 := by omega
  clear hil
  go_enter Tryd.func31, Tryd.ntmps31
  go_wp2_with fail
  refine (tens_nat m _ h2).mono ?_
  rintro e w1 ⟨rfl, hb1⟩
  have BB := Lib.hid hb1
  clear hb1
  go_wp2_with fail
  go_ret
  refine ⟨?_, BB.out⟩
  rw [HI.out, show (45 :: Lib.itoa (m : Int)) = [45] ++ Lib.itoa (m : Int) from rfl, ← cat]; rfl
theorem tens_any (n : Int) (w : World) (h0 : -9223372036854775808 < n) (h1 : n < 9223372036854775808) : Calls Tryd.prog 31 #[.int .i64 n] w (TensP n w) := by
  by_cases h : n < 0
  · obtain ⟨m, rfl⟩ : ∃ m : Nat, n = -(m : Int) := ⟨(-n).toNat, by omega⟩
    exact tens_neg m w (by omega) (by omega)
  · obtain ⟨m, rfl⟩ : ∃ m : Nat, n = (m : Int) := ⟨n.toNat, by omega⟩
    exact tens_nat m w (by omega)
end Go.Proofs.YtpgcnejofnhhfaaDoor
