/- Few: the input is small. -/
import Derived.Test.YtmophafgmimhcaaMdAwake
import Derived.Test.YtmophafgmimhcaaMdArgs
namespace Go.Proofs.Ytmophafgmimhcaa
open Go.ChangeShapes Go.WideShapes Go.ChangeAt Go.RowKit Go.Maps
set_option maxRecDepth 100000 in
set_option maxHeartbeats 1600000 in
theorem few_any (wv : Value) (M : List Wd) (qv : Value) (Q : List Sl) (w : World) (hm : WS w wv M) (hq : SK slE w qv Q) (hl : Q.length ≤ maxLen) : Calls Try.prog 8 #[wv, qv] w fun e w' => ∃ b, e = .returned (.bool b) ∧ Below w.heap.size w w' ∧ (b = true → M.length ≤ 20 ∧ Q.length ≤ 20 ∧ ∀ i, i < Q.length → (Q[i]!).2.1 ≤ 12) := by
  have HQ := Lib.hid hq
  obtain ⟨a1, cp, rfl, hcap⟩ := hq.form
  obtain ⟨ma, mc, rfl, _⟩ := hm.form
  clear hm hq
  obtain ⟨n, hn⟩ : ∃ n, Q.length = n := ⟨_, rfl⟩
  obtain ⟨mn, hmn⟩ : ∃ n, M.length = n := ⟨_, rfl⟩
  rw [hn] at HQ hcap hl ⊢
  unfold maxLen at hl
  rw [hmn]
  clear hn hmn
  go_enter Try.func8, Try.ntmps8
  go_wp2_with fail
  go_loopw [9] (fun iv wr => ∃ k : Nat, k ≤ n ∧ iv = .int .i64 k ∧ (∀ i, i < k → (Q[i]!).2.1 ≤ 12) ∧ Below w.heap.size w wr) (fun iv _ => n - (intOf iv).toNat)
  case atStart => exact ⟨0, by omega, rfl, fun i hi => by omega, Below.refl _ _⟩
  case round =>
    obtain ⟨k, hk, rfl, hho, hb⟩ := hrel
    have HO := Lib.hid hho
    have BB := Lib.hid hb
    clear hho hb
    by_cases hlt : k < n
    · obtain ⟨b, off, rfl, hbl, hln, hc⟩ := HQ.out.addr hlt
      have c0 : wr.cell? ⟨b, off + k, none⟩ = some (.slice (Q[k]!).1 (Q[k]!).2.1 (Q[k]!).2.2) := by
        rw [BB.out.cell (p := ⟨b, _, none⟩) hbl]
        have := hc k (by rw [hln]; exact hlt) 0 _ rfl
        rw [show slE.k = 1 from rfl, Nat.mul_one, Nat.add_zero] at this
        exact this
      clear hc hln
      obtain ⟨y, hy⟩ : ∃ y, Q[k]! = y := ⟨_, rfl⟩
      rw [hy] at c0
      have HY := Lib.hid hy
      clear hy
      obtain ⟨y0, y1, y2⟩ := y
      simp only at c0
      by_cases h12 : 12 < y1
      · have h12' : (12 : Int) < y1 := by omega
        go_wp2_with fail
        go_ret
        exact ⟨_, rfl, BB.out, fun h => by cases h⟩
      · have h12' : ¬ (12 : Int) < y1 := by omega
        go_wp2_with fail
        go_roundw
        case rel =>
          refine ⟨k + 1, by omega, by go_num, fun i hi => ?_, BB.out⟩
          by_cases e : i = k
          · subst e; rw [HY.out]; show y1 ≤ 12; omega
          · exact HO.out i (by omega)
        case measure => simp [intOf]; omega
    · obtain rfl : k = n := by omega
      by_cases h1 : mn ≤ 20
      · have h1' : (mn : Int) ≤ 20 := by omega
        by_cases h2 : k ≤ 20
        · have h2' : (k : Int) ≤ 20 := by omega
          go_wp2_with fail
          go_ret
          exact ⟨_, rfl, BB.out, fun _ => ⟨h1, h2, HO.out⟩⟩
        · have h2' : ¬ (k : Int) ≤ 20 := by omega
          have h2'' : (20 : Int) < k := by omega
          have h3 : decide ((k : Int) ≤ 20) = false := decide_eq_false h2'
          go_wp2_with fail
          go_ret
          exact ⟨rfl, BB.out⟩
      · have h1' : ¬ (mn : Int) ≤ 20 := by omega
        have h1'' : (20 : Int) < mn := by omega
        have h3 : decide ((mn : Int) ≤ 20) = false := decide_eq_false h1'
        go_wp2_with fail
        go_ret
        exact ⟨rfl, BB.out⟩
end Go.Proofs.Ytmophafgmimhcaa
