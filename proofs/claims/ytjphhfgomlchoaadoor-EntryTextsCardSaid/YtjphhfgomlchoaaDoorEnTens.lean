/- The reference's Tens: the decimal form of every location. -/
import Derived.Test.YtjphhfgomlchoaaDoorEnRText
namespace Go.Proofs.YtjphhfgomlchoaaDoor
open Go.ChangeShapes Go.WideShapes Go.ChangeAt Go.RowKit
def TensP (n : Int) (w : World) (e : Ending) (w' : World) : Prop := e = .returned (.string ⟨(Lib.itoa n).toArray⟩) ∧ Below w.heap.size w w'
set_option maxRecDepth 100000 in
theorem tens_small (d : Nat) (w : World) (h : d < 10) : Calls Tryd.prog 52 #[.int .u64 d] w (TensP d w) := by
  have h2 : (d : Int) < 10 := by omega
  have hc := conv1 d h (w.alloc (.cells #[.int .u8 (48 + (d : Int))] 5)) w.heap.size (by simp [go_sem])
  have HI := Lib.hid (itoa_small d h)
  go_enter Tryd.func52, Tryd.ntmps52
  go_wp2_with fail
  go_ret
  refine ⟨?_, below1 _ _⟩
  rw [HI.out]; rfl
set_option maxRecDepth 100000 in
set_option maxHeartbeats 800000 in
theorem tens_big (n q d : Nat) (w : World) (h : 10 ≤ n) (h2 : n < 18446744073709551616) (hq : q = n / 10) (hd : d = n % 10) (ih : ∀ W, Calls Tryd.prog 52 #[.int .u64 (q : Int)] W (TensP q W)) : Calls Tryd.prog 52 #[.int .u64 n] w (TensP n w) := by
  have HI := Lib.hid (show Lib.itoa n = Lib.itoa q ++ [dgt d] by rw [hq, hd]; exact itoa_big n (by omega))
  have HD := Lib.hid (itoa_small d (by omega))
  have h3 : ¬ (n : Int) < 10 := by omega
  have hd9 : d < 10 := by omega
  have hil : (Lib.itoa (q : Int)).length ≤ 21 := itoa_le _ (by omega) (by omega)
  have k1 : (n : Int) / 10 = (q : Int) := by omega
  have k3 : (n : Int) % 10 = (d : Int) := by omega
  have hs : (⟨(Lib.itoa (q : Int)).toArray⟩ : ByteArray).size + (⟨#[dgt d]⟩ : ByteArray).size ≤ 9223372036854775807 := by simp only [ByteArray.size, List.size_toArray]; show _ + 1 ≤ _; omega
  have hs2 : (Lib.itoa (q : Int)).length + 1 ≤ 9223372036854775807 := by omega
  clear hq hd
  have IH := Lib.hid ih
  clear ih hil
  go_enter Tryd.func52, Tryd.ntmps52
  go_wp2_with fail
  refine (IH.out _).mono ?_
  rintro e w1 ⟨rfl, hb1⟩
  have BB := Lib.hid hb1
  clear hb1
  go_wp2_with fail
  refine (tens_small d _ hd9).mono ?_
  rintro e w2 ⟨rfl, hb2⟩
  replace BB := Lib.hid (BB.out.trans (hb2.mono BB.out.size))
  clear hb2
  rw [HD.out]
  go_wp2_with fail
  go_ret
  refine ⟨?_, BB.out⟩
  rw [HI.out, ← cat]; rfl
theorem tens_nat (n : Nat) : ∀ w, n < 18446744073709551616 → Calls Tryd.prog 52 #[.int .u64 n] w (TensP n w) := by
  induction n using Nat.strongRecOn with
  | ind n ih =>
    intro w hn
    by_cases h : n < 10
    · exact tens_small n w h
    · exact tens_big n (n / 10) (n % 10) w (by omega) hn rfl rfl (fun W => ih (n / 10) (by omega) W (by omega))
theorem u64_mod (n : Int) : IntKind.u64.wrap n = n % 18446744073709551616 := by
  simp [IntKind.wrap, IntKind.bits, IntKind.signed]
theorem u64_neg (m : Nat) (h : 0 < m) (h2 : m ≤ 9223372036854775808) : IntKind.u64.wrap (-(m : Int)) = 18446744073709551616 - (m : Int) := by rw [u64_mod]; omega
theorem u64_back (m : Nat) (h : 0 < m) (h2 : m ≤ 9223372036854775808) : IntKind.u64.wrap (-(18446744073709551616 - (m : Int))) = (m : Int) := by rw [u64_mod]; omega
set_option maxRecDepth 100000 in
set_option maxHeartbeats 3200000 in
theorem tensI_neg (m : Nat) (w : World) (h : 0 < m) (h2 : m ≤ 9223372036854775808) : Calls Tryd.prog 35 #[.int .i64 (-(m : Int))] w (TensP (-(m : Int)) w) := by
  have HI := Lib.hid (itoa_neg m h)
  have h1 : -(m : Int) < 0 := by omega
  have kw : IntKind.u64.wrap (-(m : Int)) = 18446744073709551616 - (m : Int) := u64_neg m h h2
  have kv : IntKind.u64.wrap (-(18446744073709551616 - (m : Int))) = (m : Int) := u64_back m h h2
  have hil : (Lib.itoa (m : Int)).length ≤ 21 := by
    unfold Lib.itoa; rw [if_neg (by omega)]
    have := dlen 20 (m : Int).toNat (by omega) (by omega); omega
  have hs : (⟨#[45]⟩ : ByteArray).size + (⟨(Lib.itoa (m : Int)).toArray⟩ : ByteArray).size ≤ 9223372036854775807 := by simp only [ByteArray.size, List.size_toArray]; show 1 + _ ≤ _; omega
  have hs2 : 1 + (Lib.itoa (m : Int)).length ≤ 9223372036854775807 := by omega
  clear hil
  have TN := Lib.hid (fun W => tens_nat m W (by omega))
  go_enter Tryd.func35, Tryd.ntmps35
  go_wp2_with fail
  first | rw [kv] | skip
  refine (TN.out _).mono ?_
  rintro e w1 ⟨rfl, hb1⟩
  have BB := Lib.hid hb1
  clear hb1
  go_wp2_with fail
  go_ret
  refine ⟨?_, BB.out⟩
  rw [HI.out, show (45 :: Lib.itoa (m : Int)) = [45] ++ Lib.itoa (m : Int) from rfl, ← cat]; rfl
set_option maxRecDepth 100000 in
theorem tensI_pos (m : Nat) (w : World) (h2 : m < 9223372036854775808) : Calls Tryd.prog 35 #[.int .i64 (m : Int)] w (TensP (m : Int) w) := by
  have h1 : ¬ (m : Int) < 0 := by omega
  have kw : IntKind.u64.wrap (m : Int) = (m : Int) := IntWalk.u64_in _ ⟨by omega, by omega⟩
  have TN := Lib.hid (fun W => tens_nat m W (by omega))
  go_enter Tryd.func35, Tryd.ntmps35
  go_wp2_with fail
  first | rw [kw] | skip
  refine (TN.out _).mono ?_
  rintro e w1 ⟨rfl, hb1⟩
  have BB := Lib.hid hb1
  clear hb1
  go_wp2_with fail
  go_ret
  exact ⟨rfl, BB.out⟩
theorem tensI_any (n : Int) (w : World) (h0 : -9223372036854775808 ≤ n) (h1 : n ≤ 9223372036854775807) : Calls Tryd.prog 35 #[.int .i64 n] w (TensP n w) := by
  by_cases h : n < 0
  · obtain ⟨m, rfl⟩ : ∃ m : Nat, n = -(m : Int) := ⟨(-n).toNat, by omega⟩
    exact tensI_neg m w (by omega) (by omega)
  · obtain ⟨m, rfl⟩ : ∃ m : Nat, n = (m : Int) := ⟨n.toNat, by omega⟩
    exact tensI_pos m w (by omega)
end Go.Proofs.YtjphhfgomlchoaaDoor
