/- The reference's digits: which number stands at a place of a string. -/
import Derived.Test.YthcafhdokbejkaaDoorInv
import Derived.Test.YthcafhdokbejkaaDoorRefText
namespace Go.Proofs.YthcafhdokbejkaaDoor
open Go Go.Lib Go.ChangeShapes Go.WideShapes Go.ChangeAt Go.RowKit
theorem spell_ge (l : List UInt8) : ∀ a : Nat, a ≤ spell a l := by
  induction l with
  | nil => exact fun a => Nat.le_refl _
  | cons c r ih => exact fun a => Nat.le_trans (by omega) (ih (a * 10 + (c.toNat - 48)))
theorem spell_snoc (l : List UInt8) (c : UInt8) : spell 0 (l ++ [c]) = spell 0 l * 10 + (c.toNat - 48) := by
  rw [spell_append]; rfl
/-- The digits at the head of L end at k. -/
structure Run (L : List UInt8) (k : Nat) : Prop where
  le : k ≤ L.length
  d : ∀ j c, j < k → L[j]? = some c → IsDig c
  s : ∀ c, L[k]? = some c → ¬ IsDig c
theorem Run.uniq {L : List UInt8} {j k : Nat} (a : Run L j) (b : Run L k) : j = k := by
  rcases Nat.lt_trichotomy j k with h | h | h
  · exfalso
    have hj : j < L.length := by have := b.le; omega
    exact a.s _ (List.getElem?_eq_getElem hj) (b.d j _ h (List.getElem?_eq_getElem hj))
  · exact h
  · exfalso
    have hj : k < L.length := by have := a.le; omega
    exact b.s _ (List.getElem?_eq_getElem hj) (a.d k _ h (List.getElem?_eq_getElem hj))
theorem run_of {D rest : List UInt8} (hD : ∀ c ∈ D, IsDig c) (hr : ∀ c, rest[0]? = some c → ¬ IsDig c) : Run (D ++ rest) D.length := by
  refine ⟨by simp, fun j c hj hc => ?_, fun c hc => ?_⟩
  · rw [List.getElem?_append_left hj] at hc
    exact hD c (List.mem_of_getElem? hc)
  · rw [List.getElem?_append_right (Nat.le_refl _), Nat.sub_self] at hc
    exact hr c hc
theorem Run.take_ge {L : List UInt8} {j k : Nat} (a : Run L j) (h : ∀ i c, i < k → L[i]? = some c → IsDig c) (hk : k ≤ L.length) : spell 0 (L.take k) ≤ spell 0 (L.take j) := by
  have hjk : k ≤ j := by
    rcases Nat.lt_or_ge j k with h' | h'
    · exfalso
      have hj : j < L.length := by omega
      exact a.s _ (List.getElem?_eq_getElem hj) (h j _ h' (List.getElem?_eq_getElem hj))
    · exact h'
  obtain ⟨m, rfl⟩ := Nat.exists_eq_add_of_le hjk
  rw [List.take_add, spell_append]
  exact spell_ge _ _
/-- What digits finds at the head of L. -/
def Dig (L : List UInt8) (most at_ : Nat) (n i : Int) : Prop :=
  (∃ k, 1 ≤ k ∧ Run L k ∧ n = spell 0 (L.take k) ∧ spell 0 (L.take k) ≤ most ∧ i = (at_ : Int) + k) ∨ (n = 0 ∧ i = -1 ∧ ¬ ∃ k, 1 ≤ k ∧ Run L k ∧ spell 0 (L.take k) ≤ most)
theorem Dig.of {u : Nat} {rest : List UInt8} {most at_ : Nat} {n i : Int} (hr : ∀ c, rest[0]? = some c → ¬ IsDig c) (hu : u ≤ most) (h : Dig (decDigits u ++ rest) most at_ n i) : n = u ∧ i = (at_ : Int) + (decDigits u).length := by
  have hR := run_of (decDigits_dig u) hr
  rcases h with ⟨k, hk, hk2, rfl, -, rfl⟩ | ⟨-, -, h⟩
  · obtain rfl := hk2.uniq hR
    rw [List.take_left, spell_decDigits]
    exact ⟨rfl, rfl⟩
  · refine absurd ⟨_, ?_, hR, ?_⟩ h
    · have := dec_ne u
      exact List.length_pos_iff.2 this
    · rw [List.take_left, spell_decDigits]; exact hu
def DigPost (s : ByteArray) (M a : Nat) (w : World) (e : Ending) (w' : World) : Prop := (∃ n i, e = .returned (.tuple #[.int .u64 n, .int .i64 i]) ∧ Dig (s.data.toList.drop a) M a n i) ∧ w = w'
/-- Where the loop of digits stands. -/
structure DAt (L : List UInt8) (M k n : Nat) : Prop where
  le : k ≤ L.length
  d : ∀ j c, j < k → L[j]? = some c → IsDig c
  e : n = spell 0 (L.take k)
  m : n ≤ M
theorem DAt.step {L : List UInt8} {M k n : Nat} (h : DAt L M k n) {c : UInt8} (hc : L[k]? = some c) (hd : IsDig c) (hm : n * 10 + (c.toNat - 48) ≤ M) : DAt L M (k + 1) (n * 10 + (c.toNat - 48)) := by
  have hk : k < L.length := (List.getElem?_eq_some_iff.1 hc).1
  refine ⟨hk, fun j x hj hx => ?_, ?_, hm⟩
  · rcases Nat.lt_or_ge j k with h' | h'
    · exact h.d j x h' hx
    · obtain rfl : j = k := by omega
      rw [hc] at hx; cases hx; exact hd
  · rw [List.take_add_one, hc, h.e]; exact (spell_snoc _ _).symm
theorem DAt.over {L : List UInt8} {M k n a : Nat} (h : DAt L M k n) {c : UInt8} (hc : L[k]? = some c) (hd : IsDig c) (hm : M < n * 10 + (c.toNat - 48)) : Dig L M a 0 (-1) := by
  have hk : k < L.length := (List.getElem?_eq_some_iff.1 hc).1
  refine .inr ⟨rfl, rfl, fun ⟨j, _, hR, hj⟩ => ?_⟩
  have h2 := hR.take_ge (k := k + 1) (fun i x hi hx => by
    rcases Nat.lt_or_ge i k with h' | h'
    · exact h.d i x h' hx
    · obtain rfl : i = k := by omega
      rw [hc] at hx; cases hx; exact hd) hk
  rw [List.take_add_one, hc] at h2
  have h3 := spell_snoc (L.take k) c
  rw [← h.e] at h3
  have h4 : spell 0 (L.take k ++ (some c).toList) = n * 10 + (c.toNat - 48) := h3
  omega
theorem DAt.stop {L : List UInt8} {M k n a : Nat} (h : DAt L M k n) (hs : ∀ c, L[k]? = some c → ¬ IsDig c) : Dig L M a (if k = 0 then 0 else (n : Int)) (if k = 0 then -1 else (a : Int) + k) := by
  by_cases hk : k = 0
  · subst hk
    rw [if_pos rfl, if_pos rfl]
    refine .inr ⟨rfl, rfl, fun ⟨j, hj, hR, _⟩ => ?_⟩
    have hl : 0 < L.length := by have := hR.le; omega
    exact hs _ (List.getElem?_eq_getElem hl) (hR.d 0 _ (by omega) (List.getElem?_eq_getElem hl))
  · rw [if_neg hk, if_neg hk]
    exact .inl ⟨k, by omega, ⟨h.le, h.d, hs⟩, by rw [h.e], by rw [← h.e]; exact h.m, rfl⟩
theorem at_drop (s : ByteArray) (a k : Nat) (h : a + k < s.size) : (s.data.toList.drop a)[k]? = some s[a + k] := by
  rw [List.getElem?_drop, List.getElem?_eq_getElem (by simpa using h)]; rfl
set_option maxRecDepth 100000 in
set_option maxHeartbeats 1600000 in
theorem digits_any (s : ByteArray) (a M : Nat) (w : World) (ha : a ≤ s.size) (hs : s.size ≤ 1000) (hM : 9 ≤ M) (hM2 : M < 18446744073709551616) :
    Calls Tryd.prog 24 #[.string s, .int .i64 a, .int .u64 M] w (DigPost s M a w) := by
  obtain ⟨L, hL⟩ : ∃ L, s.data.toList.drop a = L := ⟨_, rfl⟩
  have hl : L.length = s.size - a := by rw [← hL, List.length_drop]; simp
  have HA := Lib.hid (fun p (h0 : a ≤ p) (h : p < s.size) => (by
    have := at_drop s a (p - a) (by omega)
    rw [hL] at this
    rw [this]; congr 2; omega : L[p - a]? = some s[p]))
  have HL := Lib.hid hL
  have HLL := Lib.hid hl
  clear hL hl
  go_enter Tryd.func24, Tryd.ntmps24
  go_wp2
  go_loop [8, 9] (fun n i => ∃ p m : Nat, a ≤ p ∧ p ≤ s.size ∧ DAt L M (p - a) m ∧ n = .int .u64 m ∧ i = .int .i64 (p : Int)) (fun _ i => s.size - (RowKit.intOf i).toNat)
  case atStart => exact ⟨a, 0, by omega, by omega, ⟨by omega, by omega, by rw [Nat.sub_self]; rfl, by omega⟩, rfl, rfl⟩
  case round =>
    obtain ⟨p, m, hp, hk, hD, rfl, rfl⟩ := hrel
    have hmM := hD.m
    have DD := Lib.hid hD
    clear hD
    have FIN := Lib.hid (fun (hs : ∀ c, L[p - a]? = some c → ¬ IsDig c) => (by
      have := DAt.stop (a := a) DD.out hs
      rwa [show (a : Int) + ((p - a : Nat) : Int) = p by omega] at this : Dig L M a (if p - a = 0 then 0 else (m : Int)) (if p - a = 0 then -1 else (p : Int))))
    by_cases hlt : p < s.size
    · have HC := Lib.hid (HA.out p hp hlt)
      have h255 : (s[p].toNat : Int) < 256 := by have := s[p].toNat_lt; omega
      by_cases h1 : 48 ≤ (s[p].toNat : Int)
      · by_cases h2 : (s[p].toNat : Int) ≤ 57
        · have hdig : IsDig s[p] := ⟨by omega, by omega⟩
          have HG := Lib.hid hdig
          by_cases h3 : (M : Int) < (m : Int) * 10 + ((s[p].toNat : Int) - 48)
          · have h4 : ((M : Int) - ((s[p].toNat : Int) - 48)) / 10 < (m : Int) := by omega
            have OV := Lib.hid (DAt.over (a := a) DD.out HC.out HG.out (by omega))
            go_wp2
            go_ret2
            exact ⟨⟨_, _, rfl, by rw [HL.out]; exact OV.out⟩, rfl⟩
          · have h4 : (m : Int) ≤ ((M : Int) - ((s[p].toNat : Int) - 48)) / 10 := by omega
            have ST := Lib.hid (DD.out.step HC.out HG.out (by omega))
            go_wp2
            go_round
            case rel => exact ⟨p + 1, m * 10 + (s[p].toNat - 48), by omega, by omega, by rw [show p + 1 - a = p - a + 1 by omega]; exact ST.out, by congr 1; omega, by go_num⟩
            case measure => simp [RowKit.intOf]; omega
        · have FF := Lib.hid (FIN.out (fun c hc => by rw [HC.out] at hc; cases hc; unfold IsDig; omega))
          clear FIN
          by_cases hpa : p = a
          · subst hpa
            rw [Nat.sub_self, if_pos rfl, if_pos rfl] at FF
            go_wp2
            go_ret2
            exact ⟨⟨_, _, rfl, by rw [HL.out]; exact FF.out⟩, rfl⟩
          · rw [if_neg (by omega), if_neg (by omega)] at FF
            have hpq : ((p : Int) == (a : Int)) = false := by rw [beq_eq_false_iff_ne]; omega
            go_wp2
            go_ret2
            exact ⟨⟨_, _, rfl, by rw [HL.out]; exact FF.out⟩, rfl⟩
      · have FF := Lib.hid (FIN.out (fun c hc => by rw [HC.out] at hc; cases hc; unfold IsDig; omega))
        clear FIN
        by_cases hpa : p = a
        · subst hpa
          rw [Nat.sub_self, if_pos rfl, if_pos rfl] at FF
          go_wp2
          go_ret2
          exact ⟨⟨_, _, rfl, by rw [HL.out]; exact FF.out⟩, rfl⟩
        · rw [if_neg (by omega), if_neg (by omega)] at FF
          have hpq : ((p : Int) == (a : Int)) = false := by rw [beq_eq_false_iff_ne]; omega
          go_wp2
          go_ret2
          exact ⟨⟨_, _, rfl, by rw [HL.out]; exact FF.out⟩, rfl⟩
    · have FF := Lib.hid (FIN.out (fun c hc => by have := (List.getElem?_eq_some_iff.1 hc).1; rw [HLL.out] at this; omega))
      clear FIN
      by_cases hpa : p = a
      · subst hpa
        rw [Nat.sub_self, if_pos rfl, if_pos rfl] at FF
        go_wp2
        go_ret2
        exact ⟨⟨_, _, rfl, by rw [HL.out]; exact FF.out⟩, rfl⟩
      · rw [if_neg (by omega), if_neg (by omega)] at FF
        have hpq : ((p : Int) == (a : Int)) = false := by rw [beq_eq_false_iff_ne]; omega
        go_wp2
        go_ret2
        exact ⟨⟨_, _, rfl, by rw [HL.out]; exact FF.out⟩, rfl⟩
end Go.Proofs.YthcafhdokbejkaaDoor
