/- Plain facts on decimal numerals: they hold digits alone, and different numbers have different numerals. -/
import Derived.Lib.ItoaNum
namespace Go.Proofs.YthcafhdokbejkaaDoor
open Go.Lib

/-- A decimal digit. -/
def IsDig (c : UInt8) : Prop := 48 ≤ c.toNat ∧ c.toNat ≤ 57

theorem dig_toNat (d : Nat) (h : d < 10) : (UInt8.ofNat (48 + d)).toNat = 48 + d := by
  rw [UInt8.toNat_ofNat']; omega

theorem decDigits_dig (u : Nat) : ∀ c ∈ decDigits u, IsDig c := by
  induction u using Nat.strongRecOn with
  | _ u ih =>
    intro c hc
    by_cases h : u < 10
    · rw [decDigits, dif_pos h] at hc
      rw [List.mem_singleton] at hc
      subst hc
      unfold IsDig
      rw [dig_toNat u h]; omega
    · rw [decDigits, dif_neg h, List.mem_append, List.mem_singleton] at hc
      rcases hc with hc | hc
      · exact ih (u / 10) (by omega) c hc
      · subst hc
        unfold IsDig
        rw [dig_toNat (u % 10) (by omega)]; omega

/-- What a row of digits spells, behind the digits that spell a. -/
def spell (a : Nat) (l : List UInt8) : Nat := l.foldl (fun x c => x * 10 + (c.toNat - 48)) a

theorem spell_append (a : Nat) (l m : List UInt8) : spell a (l ++ m) = spell (spell a l) m := by
  unfold spell; rw [List.foldl_append]

theorem spell_decDigits (u : Nat) : spell 0 (decDigits u) = u := by
  induction u using Nat.strongRecOn with
  | _ u ih =>
    by_cases h : u < 10
    · rw [decDigits, dif_pos h]
      show 0 * 10 + ((UInt8.ofNat (48 + u)).toNat - 48) = u
      rw [dig_toNat u h]; omega
    · rw [decDigits, dif_neg h, spell_append, ih (u / 10) (by omega)]
      show u / 10 * 10 + ((UInt8.ofNat (48 + u % 10)).toNat - 48) = u
      rw [dig_toNat (u % 10) (by omega)]; omega

theorem decDigits_inj {a b : Nat} (h : decDigits a = decDigits b) : a = b := by
  rw [← spell_decDigits a, h, spell_decDigits]

/-- Two rows that hold no s, each followed by s: they part at the same place. -/
theorem split_at (s : UInt8) : ∀ (l m t u : List UInt8), (∀ c ∈ l, c ≠ s) → (∀ c ∈ m, c ≠ s) → l ++ s :: t = m ++ s :: u → l = m ∧ t = u
  | [], [], t, u, _, _, h => by simp at h; exact ⟨rfl, h⟩
  | [], b :: m, t, u, _, hm, h => by
    simp at h; exact absurd h.1.symm (hm b (by simp))
  | a :: l, [], t, u, hl, _, h => by
    simp at h; exact absurd h.1 (hl a (by simp))
  | a :: l, b :: m, t, u, hl, hm, h => by
    simp at h
    obtain ⟨e1, e2⟩ := split_at s l m t u (fun c hc => hl c (by simp [hc])) (fun c hc => hm c (by simp [hc])) h.2
    exact ⟨by rw [h.1, e1], e2⟩

theorem dig_ne (l : List UInt8) (hl : ∀ c ∈ l, IsDig c) (s : UInt8) (hs : ¬ IsDig s) : ∀ c ∈ l, c ≠ s := fun c hc e => hs (e ▸ hl c hc)

theorem two_inj {a b c d : Nat} (h : decDigits a ++ 58 :: decDigits b = decDigits c ++ 58 :: decDigits d) : a = c ∧ b = d := by
  have h58 : ¬ IsDig 58 := by unfold IsDig; decide
  obtain ⟨e1, e2⟩ := split_at 58 _ _ _ _ (dig_ne _ (decDigits_dig a) 58 h58) (dig_ne _ (decDigits_dig c) 58 h58) h
  exact ⟨decDigits_inj e1, decDigits_inj e2⟩
end Go.Proofs.YthcafhdokbejkaaDoor
