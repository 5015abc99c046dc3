/- Reading a text form gives the word back: plain facts. -/
import Derived.Test.YthcafhdokbejkaaDoorParse
import Derived.Test.YthcafhdokbejkaaDoorNum
namespace Go.Proofs.YthcafhdokbejkaaDoor
open Go Go.Lib
theorem uintM_app {M : Nat} : ∀ (l m : List UInt8) (a b : Nat), parseUintM M a l = .ok b → parseUintM M a (l ++ m) = parseUintM M b m
  | [], m, a, b, h => by
    simp only [parseUintM, NumEnd.ok.injEq] at h
    subst h; rfl
  | c :: r, m, a, b, h => by
    rw [List.cons_append]
    unfold parseUintM at h
    conv => lhs; unfold parseUintM
    split at h
    · rename_i hc
      rw [if_pos hc]
      split at h
      · cases h
      · rename_i h1
        rw [if_neg h1]
        split at h
        · cases h
        · rename_i h2
          rw [if_neg h2]
          exact uintM_app r m _ b h
    · cases h
theorem uintM_dec (M : Nat) (hM : M ≤ 18446744073709551615) (u : Nat) (h : u ≤ M) : parseUintM M 0 (decDigits u) = .ok u := by
  induction u using Nat.strongRecOn with
  | _ u ih =>
    by_cases hu : u < 10
    · rw [decDigits, dif_pos hu]
      unfold parseUintM
      rw [dig_toNat u hu, if_pos (by omega), if_neg (by omega), if_neg (by omega)]
      unfold parseUintM
      congr 1; omega
    · rw [decDigits, dif_neg hu, uintM_app _ _ _ _ (ih (u / 10) (by omega) (by omega))]
      unfold parseUintM
      rw [dig_toNat (u % 10) (by omega), if_pos (by omega), if_neg (by omega), if_neg (by omega)]
      unfold parseUintM
      congr 1; omega
theorem dec_ne (u : Nat) : decDigits u ≠ [] := by
  rw [decDigits]; split <;> simp
theorem uintB_dec (B : Nat) (hB : 2 ^ B - 1 ≤ 18446744073709551615) (u : Nat) (h : u ≤ 2 ^ B - 1) : parseUintB B (decDigits u) = .ok u := by
  unfold parseUintB
  rw [if_neg (dec_ne u)]; exact uintM_dec _ hB u h
theorem intB_itoa (B : Nat) (hB : 2 ^ B - 1 ≤ 18446744073709551615) (h2 : 2 ^ (B - 1) ≤ 2 ^ B - 1) (v : Int) (h0 : -((2 ^ (B - 1) : Nat) : Int) ≤ v) (h1 : v < ((2 ^ (B - 1) : Nat) : Int)) : parseIntB B (itoa v) = .ok v := by
  by_cases hv : v < 0
  · have hu := uintB_dec B hB v.natAbs (by omega)
    unfold itoa
    rw [if_pos hv]
    simp [parseIntB, hu]
    rw [if_neg (by omega)]
    congr 1; omega
  · have hu := uintB_dec B hB v.toNat (by omega)
    unfold itoa
    rw [if_neg hv]
    have hd := decDigits_dig v.toNat
    cases hl : decDigits v.toNat with
    | nil => exact absurd hl (dec_ne _)
    | cons c r =>
      rw [hl] at hu hd
      have hc := hd c (by simp)
      unfold IsDig at hc
      have e1 : ¬ (c.toNat = 43 ∨ c.toNat = 45) := by omega
      have e2 : ¬ c.toNat = 45 := by omega
      simp only [parseIntB, if_neg e1, hu]
      rw [if_neg (by omega), if_neg (by omega), if_neg e2]
      congr 1; omega
theorem itoa_nat (v : Int) (h : 0 ≤ v) : itoa v = decDigits v.toNat := by
  unfold itoa; rw [if_neg (by omega)]
theorem intB_dec (B : Nat) (hB : 2 ^ B - 1 ≤ 18446744073709551615) (h2 : 2 ^ (B - 1) ≤ 2 ^ B - 1) (v : Int) (h0 : 0 ≤ v) (h1 : v < ((2 ^ (B - 1) : Nat) : Int)) : parseIntB B (decDigits v.toNat) = .ok v := by
  rw [← itoa_nat v h0]
  exact intB_itoa B hB h2 v (by omega) h1
theorem iany_none (ch : List UInt8) : ∀ l : List UInt8, (∀ c ∈ l, ch.contains c = false) → indexAny l ch = -1
  | [], _ => rfl
  | c :: l, h => by
    have := iany_none ch l (fun d hd => h d (by simp [hd]))
    unfold indexAny
    rw [h c (by simp), this]; rfl
theorem iany_at (ch : List UInt8) (m : UInt8) (hm : ch.contains m = true) (t : List UInt8) : ∀ a : List UInt8, (∀ c ∈ a, ch.contains c = false) → indexAny (a ++ m :: t) ch = a.length
  | [], _ => by
    show indexAny (m :: t) ch = _
    unfold indexAny
    rw [hm]; rfl
  | c :: a, h => by
    have := iany_at ch m hm t a (fun d hd => h d (by simp [hd]))
    show indexAny (c :: (a ++ m :: t)) ch = _
    unfold indexAny
    rw [h c (by simp), this]
    simp
/-- A digit or a minus is no mark. -/
theorem dig_mark {c : UInt8} (h : IsDig c ∨ c = 45) : [46, 35, 58].contains c = false := by
  rcases h with h | rfl
  · unfold IsDig at h
    have : ¬ c = 46 ∧ ¬ c = 35 ∧ ¬ c = 58 := ⟨fun e => by subst e; simp at h, fun e => by subst e; simp at h, fun e => by subst e; simp at h⟩
    simp [this]
  · rfl
theorem itoa_dig (v : Int) : ∀ c ∈ itoa v, IsDig c ∨ c = 45 := by
  unfold itoa
  split
  · intro c hc
    rcases List.mem_cons.1 hc with rfl | h
    · exact .inr rfl
    · exact .inl (decDigits_dig _ c h)
  · exact fun c h => .inl (decDigits_dig _ c h)
theorem dig_lt {c : UInt8} (h : IsDig c ∨ c = 45) : c.toNat < 128 := by
  rcases h with h | rfl
  · unfold IsDig at h; omega
  · decide
def Digs (l : List UInt8) : Prop := ∀ c ∈ l, IsDig c ∨ c = 45
theorem digs_dec (u : Nat) : Digs (decDigits u) := fun c h => .inl (decDigits_dig u c h)
def Mark (m : UInt8) : Prop := m = 46 ∨ m = 35 ∨ m = 58
/-- What stands behind a number: nothing, or a mark. -/
def Rest (l : List UInt8) : Prop := l = [] ∨ ∃ m t, l = m :: t ∧ Mark m
theorem cut_split {D rest : List UInt8} (hD : Digs D) (hr : Rest rest) : (D ++ rest).take (cutAt (D ++ rest)) = D ∧ (D ++ rest).drop (cutAt (D ++ rest)) = rest := by
  have hc : cutAt (D ++ rest) = D.length := by
    unfold cutAt
    rcases hr with rfl | ⟨m, t, rfl, hm⟩
    · rw [List.append_nil, iany_none _ D (fun c h => dig_mark (hD c h))]; rfl
    · rw [iany_at _ m (by rcases hm with rfl | rfl | rfl <;> rfl) t D (fun c h => dig_mark (hD c h))]
      rw [if_neg (by omega)]; omega
  rw [hc]; simp
theorem asc_mk {l : List UInt8} (h : ∀ c ∈ l, c.toNat < 128) : Asc l := fun _ b hb => h b (List.mem_of_getElem? hb)
theorem asc_app {a b : List UInt8} (ha : Asc a) (hb : Asc b) : Asc (a ++ b) :=
  asc_mk fun c hc => by
    rcases List.mem_append.1 hc with h | h
    · obtain ⟨j, hj⟩ := List.getElem?_of_mem h; exact ha j c hj
    · obtain ⟨j, hj⟩ := List.getElem?_of_mem h; exact hb j c hj
theorem asc_cons {m : UInt8} {b : List UInt8} (ha : m.toNat < 128) (hb : Asc b) : Asc (m :: b) :=
  asc_app (a := [m]) (asc_mk (by simpa using ha)) hb
theorem asc_digs {l : List UInt8} (h : Digs l) : Asc l := asc_mk fun c hc => dig_lt (h c hc)
theorem if_some {α : Type} {v x : α} {g : Bool} (h : some v = if g = true then some x else none) : g = true ∧ x = v := by
  cases g
  · simp at h
  · simp at h; exact ⟨rfl, h.symm⟩
theorem st4_of {a b : Int} {good : Bool} {r : Int} (hf : FitsR a b) (h : St4 (58 :: decDigits b.toNat) a good r) : good = true ∧ r = a * 16777216 + b := by
  obtain ⟨f0, f1, f2, f3⟩ := hf
  rcases h with ⟨h, -⟩ | ⟨l', e, k, hk, x, g, hp, h⟩
  · simp [Lib.hasPrefix] at h
  · simp only [List.cons.injEq, true_and] at e
    subst e
    have hs := cut_split (rest := []) (digs_dec b.toNat) (.inl rfl)
    rw [List.append_nil] at hs
    rw [hk (asc_digs (digs_dec _)), hs.1, intB_dec 32 (by decide) (by decide) b (by omega) (by simp; omega)] at hp
    rw [hk (asc_digs (digs_dec _)), hs.2] at h
    obtain ⟨rfl, rfl⟩ := if_some hp
    rcases h with ⟨h, -⟩ | ⟨-, -, ⟨-, h1, h2⟩ | ⟨h1, -⟩⟩
    · simp at h
    · exact ⟨h1, h2⟩
    · exact absurd ⟨f0, f1, f2, f3⟩ h1
theorem asc_ab (a b : Nat) : Asc (decDigits a ++ 58 :: decDigits b) := asc_app (asc_digs (digs_dec _)) (asc_cons (by decide) (asc_digs (digs_dec _)))
theorem st3_of {a b : Int} {good : Bool} {r : Int} (hf : FitsR a b) (h : St3 (35 :: (decDigits a.toNat ++ 58 :: decDigits b.toNat)) good r) : good = true ∧ r = a * 16777216 + b := by
  rcases h with ⟨h, -⟩ | ⟨l', e, k, hk, x, g, hp, h⟩
  · simp [Lib.hasPrefix] at h
  · simp only [List.cons.injEq, true_and] at e
    subst e
    have hs := cut_split (rest := 58 :: decDigits b.toNat) (digs_dec a.toNat) (.inr ⟨_, _, rfl, .inr (.inr rfl)⟩)
    rw [hk (asc_ab _ _), hs.1, intB_dec 32 (by decide) (by decide) a (by have := hf.1; omega) (by have := hf.2.1; simp; omega)] at hp
    rw [hk (asc_ab _ _), hs.2] at h
    obtain ⟨rfl, rfl⟩ := if_some hp
    rcases h with ⟨h, -⟩ | ⟨-, h⟩
    · cases h
    · exact st4_of hf h
theorem st2_plain {n : Int} (n0 : 0 ≤ n) (n1 : n < 4294967296) {good : Bool} {n' r : Int} (h : St2 (46 :: decDigits n.toNat) good n' r) : good = true ∧ n' = n ∧ r = 0 := by
  rcases h with ⟨h, -⟩ | ⟨l', e, k, hk, x, g, hp, h⟩
  · simp [Lib.hasPrefix] at h
  · simp only [List.cons.injEq, true_and] at e
    subst e
    have hs := cut_split (rest := []) (digs_dec n.toNat) (.inl rfl)
    rw [List.append_nil] at hs
    rw [hk (asc_digs (digs_dec _)), hs.1, uintB_dec 32 (by decide) n.toNat (by simp; omega)] at hp
    rw [hk (asc_digs (digs_dec _)), hs.2] at h
    obtain ⟨rfl, hx⟩ := if_some (v := (n.toNat : Int)) hp
    rcases h with ⟨h, -⟩ | ⟨-, rfl, ⟨-, h1, h2⟩ | ⟨h1, -⟩⟩
    · cases h
    · exact ⟨h1, by omega, h2⟩
    · exact absurd rfl h1
theorem asc_nab (n a b : Nat) : Asc (decDigits n ++ 35 :: (decDigits a ++ 58 :: decDigits b)) := asc_app (asc_digs (digs_dec _)) (asc_cons (by decide) (asc_ab _ _))
theorem st2_inst {n a b : Int} (n0 : 0 ≤ n) (n1 : n < 4294967296) (hf : FitsR a b) {good : Bool} {n' r : Int} (h : St2 (46 :: (decDigits n.toNat ++ 35 :: (decDigits a.toNat ++ 58 :: decDigits b.toNat))) good n' r) : good = true ∧ n' = n ∧ r = a * 16777216 + b := by
  rcases h with ⟨h, -⟩ | ⟨l', e, k, hk, x, g, hp, h⟩
  · simp [Lib.hasPrefix] at h
  · simp only [List.cons.injEq, true_and] at e
    subst e
    have hs := cut_split (rest := 35 :: (decDigits a.toNat ++ 58 :: decDigits b.toNat)) (digs_dec n.toNat) (.inr ⟨_, _, rfl, .inr (.inl rfl)⟩)
    rw [hk (asc_nab _ _ _), hs.1, uintB_dec 32 (by decide) n.toNat (by simp; omega)] at hp
    rw [hk (asc_nab _ _ _), hs.2] at h
    obtain ⟨rfl, hx⟩ := if_some (v := (n.toNat : Int)) hp
    rcases h with ⟨h, -⟩ | ⟨-, rfl, ⟨h1, -⟩ | ⟨-, h⟩⟩
    · cases h
    · simp at h1
    · obtain ⟨h1, h2⟩ := st3_of hf h
      exact ⟨h1, by omega, h2⟩
theorem fits_of {r : Int} (hg : Good r) : FitsR (r / 16777216) (r % 16777216) := ⟨hg.1, hg.2.1, hg.2.2, by omega⟩
theorem st1_text {v n r : Int} (v0 : -9223372036854775808 ≤ v) (v1 : v ≤ 9223372036854775807) (n0 : 0 ≤ n) (n1 : n < 4294967296) (hr : r = 0 ∨ Good r) {good : Bool} {v' n' r' : Int} (h : St1 (textOf v n r) good v' n' r') : good = true ∧ v' = v ∧ n' = n ∧ r' = r := by
  have hi : okOf (Lib.parseIntB 64 (Lib.itoa v)) = some v := by
    rw [intB_itoa 64 (by decide) (by decide) v (by simp; omega) (by simp; omega)]; rfl
  have hdv : Digs (Lib.itoa v) := itoa_dig v
  obtain ⟨k, hk, x, g, hp, h⟩ := h
  unfold textOf at hk hp h
  by_cases h0 : r = 0
  · simp only [if_pos h0] at hk hp h
    by_cases hn : n = 0
    · simp only [if_pos hn] at hk hp h
      have hs := cut_split (rest := []) hdv (.inl rfl)
      rw [List.append_nil] at hs
      rw [hk (asc_digs hdv), hs.1, hi] at hp
      rw [hk (asc_digs hdv), hs.2] at h
      obtain ⟨rfl, rfl⟩ := if_some hp
      rcases h with ⟨h, -⟩ | ⟨-, rfl, ⟨-, h1, h2, h3⟩ | ⟨h1, -⟩⟩
      · cases h
      · exact ⟨h1, rfl, by omega, by omega⟩
      · exact absurd rfl h1
    · simp only [if_neg hn] at hk hp h
      have hs := cut_split (rest := 46 :: Lib.decDigits n.toNat) hdv (.inr ⟨_, _, rfl, .inl rfl⟩)
      have ha : Asc (Lib.itoa v ++ 46 :: Lib.decDigits n.toNat) := asc_app (asc_digs hdv) (asc_cons (by decide) (asc_digs (digs_dec _)))
      rw [hk ha, hs.1, hi] at hp
      rw [hk ha, hs.2] at h
      obtain ⟨rfl, rfl⟩ := if_some hp
      rcases h with ⟨h, -⟩ | ⟨-, rfl, ⟨h1, -⟩ | ⟨-, h⟩⟩
      · cases h
      · simp at h1
      · obtain ⟨h1, h2, h3⟩ := st2_plain n0 n1 h
        exact ⟨h1, rfl, h2, by omega⟩
  · have hg : Good r := hr.resolve_left h0
    simp only [if_neg h0, if_pos hg] at hk hp h
    have hs := cut_split (rest := 46 :: (Lib.decDigits n.toNat ++ 35 :: (Lib.decDigits (r / 16777216).toNat ++ 58 :: Lib.decDigits (r % 16777216).toNat))) hdv (.inr ⟨_, _, rfl, .inl rfl⟩)
    have ha : Asc (Lib.itoa v ++ 46 :: (Lib.decDigits n.toNat ++ 35 :: (Lib.decDigits (r / 16777216).toNat ++ 58 :: Lib.decDigits (r % 16777216).toNat))) := asc_app (asc_digs hdv) (asc_cons (by decide) (asc_nab _ _ _))
    rw [hk ha, hs.1, hi] at hp
    rw [hk ha, hs.2] at h
    obtain ⟨rfl, rfl⟩ := if_some hp
    rcases h with ⟨h, -⟩ | ⟨-, rfl, ⟨h1, -⟩ | ⟨-, h⟩⟩
    · cases h
    · simp at h1
    · obtain ⟨h1, h2, h3⟩ := st2_inst n0 n1 (fits_of hg) h
      exact ⟨h1, rfl, h2, by omega⟩
theorem st1_nil {good : Bool} {v n r : Int} (h : St1 [] good v n r) : good = false := by
  obtain ⟨k, hk, x, g, hp, h⟩ := h
  rw [List.take_nil] at hp
  rcases h with ⟨-, h⟩ | ⟨rfl, -⟩
  · exact h
  · simp [okOf, Lib.parseIntB] at hp
theorem parsed_text {v n r : Int} (v0 : -9223372036854775808 ≤ v) (v1 : v ≤ 9223372036854775807) (n0 : 0 ≤ n) (n1 : n < 4294967296) (hr : r = 0 ∨ Good r) {e : Ending} (h : Parsed (textOf v n r) e) : e = .returned (.tuple #[.agg #[.int .i64 v, .int .u32 n, .int .u32 r], .int .i64 0]) := by
  rcases h with ⟨v', n', r', rfl, -, -, -, h, -⟩ | ⟨-, v', n', r', h | ⟨h, hx⟩⟩
  · obtain ⟨-, rfl, rfl, rfl⟩ := st1_text v0 v1 n0 n1 hr h; rfl
  · cases (st1_text v0 v1 n0 n1 hr h).1
  · obtain ⟨-, rfl, rfl, rfl⟩ := st1_text v0 v1 n0 n1 hr h; exact absurd rfl hx
theorem parsed_nil {e : Ending} (h : Parsed [] e) : e = .returned (.tuple #[.agg #[.int .i64 0, .int .u32 0, .int .u32 0], .int .i64 5]) := by
  rcases h with ⟨v', n', r', rfl, -, -, -, h, -⟩ | ⟨h, -⟩
  · cases st1_nil h
  · exact h
theorem text_bad' {v n r : Int} (h0 : r ≠ 0) (h : ¬ Good r) : textOf v n r = [] := by unfold textOf; rw [if_neg h0, if_neg h]
theorem dec_len (k u : Nat) (hk : 1 ≤ k) (h : u < 10 ^ k) : (decDigits u).length ≤ k := by
  induction k generalizing u with
  | zero => omega
  | succ k ih =>
    by_cases hu : u < 10
    · rw [decDigits, dif_pos hu]; simp
    · rw [decDigits, dif_neg hu, List.length_append]
      have hk : 1 ≤ k := by
        rcases Nat.eq_zero_or_pos k with rfl | h'
        · simp at h; omega
        · exact h'
      have := ih (u / 10) hk (by rw [Nat.pow_succ] at h; omega)
      simp; omega
theorem text_len {v n r : Int} (v0 : -9223372036854775808 ≤ v) (v1 : v ≤ 9223372036854775807) (n0 : 0 ≤ n) (n1 : n < 4294967296) (r0 : 0 ≤ r) (r1 : r < 4294967296) : (textOf v n r).length ≤ 1000 := by
  have hv : (Lib.itoa v).length ≤ 21 := by
    unfold Lib.itoa
    split
    · have := dec_len 20 v.natAbs (by omega) (by omega); simp; omega
    · have := dec_len 20 v.toNat (by omega) (by omega); omega
  have hn := dec_len 20 n.toNat (by omega) (by omega)
  have ha := dec_len 20 (r / 16777216).toNat (by omega) (by omega)
  have hb := dec_len 20 (r % 16777216).toNat (by omega) (by omega)
  unfold textOf
  split
  · split
    · omega
    · simp; omega
  · split
    · simp; omega
    · simp
end Go.Proofs.YthcafhdokbejkaaDoor
