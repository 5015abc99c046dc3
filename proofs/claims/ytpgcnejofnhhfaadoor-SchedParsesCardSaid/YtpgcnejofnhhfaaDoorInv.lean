/- Reading the text of a schedule gives the schedule back: plain facts. -/
import Derived.Test.YtpgcnejofnhhfaaDoorPrint
import Derived.Test.YtpgcnejofnhhfaaDoorParse
import Derived.Lib.SplitLaws
import Derived.Lib.CountLaws
import Derived.Lib.IndexBytes
namespace Go.Proofs.YtpgcnejofnhhfaaDoor
open Go Go.Lib

theorem dig_toNat (d : Nat) (h : d < 10) : (UInt8.ofNat (48 + d)).toNat = 48 + d := by
  rw [UInt8.toNat_ofNat']; omega
theorem dec_dig : ∀ (u : Nat), ∀ c ∈ decDigits u, 48 ≤ c.toNat ∧ c.toNat ≤ 57 := by
  intro u
  induction u using Nat.strongRecOn with
  | _ u ih =>
    intro c hc
    rw [decDigits] at hc
    split at hc
    · rename_i h
      rcases List.mem_singleton.1 hc with rfl
      rw [dig_toNat u h]; omega
    · rename_i h
      rcases List.mem_append.1 hc with hc | hc
      · exact ih (u / 10) (by omega) c hc
      · rcases List.mem_singleton.1 hc with rfl
        rw [dig_toNat _ (by omega)]; omega
def IsDig (c : UInt8) : Prop := 48 ≤ c.toNat ∧ c.toNat ≤ 57
theorem decDigits_dig (u : Nat) : ∀ c ∈ decDigits u, IsDig c := dec_dig u
theorem uintM_app {M : Nat} : ∀ (l m : List UInt8) (a b : Nat), parseUintM M a l = .ok b → parseUintM M a (l ++ m) = parseUintM M b m
  | [], m, a, b, h => by
    simp only [parseUintM, NumEnd.ok.injEq] at h
    subst h; rfl
  | c :: r, m, a, b, h => by
    rw [List.cons_append]
    unfold parseUintM at h
    conv => lhs; unfold parseUintM
    split at h
    · rename_i hc
      rw [if_pos hc]
      split at h
      · cases h
      · rename_i h1
        rw [if_neg h1]
        split at h
        · cases h
        · rename_i h2
          rw [if_neg h2]
          exact uintM_app r m _ b h
    · cases h
theorem uintM_dec (M : Nat) (hM : M ≤ 18446744073709551615) (u : Nat) (h : u ≤ M) : parseUintM M 0 (decDigits u) = .ok u := by
  induction u using Nat.strongRecOn with
  | _ u ih =>
    by_cases hu : u < 10
    · rw [decDigits, dif_pos hu]
      unfold parseUintM
      rw [dig_toNat u hu, if_pos (by omega), if_neg (by omega), if_neg (by omega)]
      unfold parseUintM
      congr 1; omega
    · rw [decDigits, dif_neg hu, uintM_app _ _ _ _ (ih (u / 10) (by omega) (by omega))]
      unfold parseUintM
      rw [dig_toNat (u % 10) (by omega), if_pos (by omega), if_neg (by omega), if_neg (by omega)]
      unfold parseUintM
      congr 1; omega
theorem dec_ne (u : Nat) : decDigits u ≠ [] := by
  rw [decDigits]; split <;> simp
theorem uintB_dec (B : Nat) (hB : 2 ^ B - 1 ≤ 18446744073709551615) (u : Nat) (h : u ≤ 2 ^ B - 1) : parseUintB B (decDigits u) = .ok u := by
  unfold parseUintB
  rw [if_neg (dec_ne u)]; exact uintM_dec _ hB u h
theorem intB_itoa (B : Nat) (hB : 2 ^ B - 1 ≤ 18446744073709551615) (h2 : 2 ^ (B - 1) ≤ 2 ^ B - 1) (v : Int) (h0 : -((2 ^ (B - 1) : Nat) : Int) ≤ v) (h1 : v < ((2 ^ (B - 1) : Nat) : Int)) : parseIntB B (itoa v) = .ok v := by
  by_cases hv : v < 0
  · have hu := uintB_dec B hB v.natAbs (by omega)
    unfold itoa
    rw [if_pos hv]
    simp [parseIntB, hu]
    rw [if_neg (by omega)]
    congr 1; omega
  · have hu := uintB_dec B hB v.toNat (by omega)
    unfold itoa
    rw [if_neg hv]
    have hd := decDigits_dig v.toNat
    cases hl : decDigits v.toNat with
    | nil => exact absurd hl (dec_ne _)
    | cons c r =>
      rw [hl] at hu hd
      have hc := hd c (by simp)
      unfold IsDig at hc
      have e1 : ¬ (c.toNat = 43 ∨ c.toNat = 45) := by omega
      have e2 : ¬ c.toNat = 45 := by omega
      simp only [parseIntB, if_neg e1, hu]
      rw [if_neg (by omega), if_neg (by omega), if_neg e2]
      congr 1; omega

theorem itoa_chars (v : Int) : ∀ c ∈ itoa v, IsDig c ∨ c = 45 := by
  unfold itoa
  split
  · intro c hc
    rcases List.mem_cons.1 hc with rfl | h
    · exact .inr rfl
    · exact .inl (decDigits_dig _ c h)
  · intro c hc
    exact .inl (decDigits_dig _ c hc)
theorem not_dig (x : UInt8) (hx : x = 32 ∨ x = 10) (v : Int) : x ∉ itoa v := by
  intro h
  rcases itoa_chars v x h with h | h
  · unfold IsDig at h
    rcases hx with rfl | rfl <;> simp at h
  · rcases hx with rfl | rfl <;> simp at h
/-- The first digit of a number above 0 is not 0. -/
theorem dec_head : ∀ (u : Nat), 0 < u → ∃ c r, decDigits u = c :: r ∧ c.toNat ≠ 48 := by
  intro u
  induction u using Nat.strongRecOn with
  | _ u ih =>
    intro hu
    rw [decDigits]
    split
    · rename_i h
      exact ⟨_, _, rfl, by rw [dig_toNat u h]; omega⟩
    · rename_i h
      obtain ⟨c, r, e, hc⟩ := ih (u / 10) (by omega) (by omega)
      exact ⟨c, r ++ [UInt8.ofNat (48 + u % 10)], by rw [e]; rfl, hc⟩
theorem digs_dec (u : Nat) (hu : 0 < u) : digsL (decDigits u) = true := by
  obtain ⟨c, r, e, hc⟩ := dec_head u hu
  have hd := dec_dig u
  rw [e] at hd ⊢
  unfold digsL
  rw [Bool.and_eq_true, bne_iff_ne]
  refine ⟨hc, List.all_eq_true.2 fun x hx => ?_⟩
  have := hd x hx
  unfold digB
  simp [this]
theorem can_itoa (v : Int) : canL (itoa v) = true := by
  unfold canL
  by_cases h0 : v = 0
  · subst h0; decide +kernel
  rw [Bool.or_eq_true]
  right
  unfold itoa
  by_cases hv : v < 0
  · rw [if_pos hv]
    have : trimPrefix (45 :: decDigits v.natAbs) [45] = decDigits v.natAbs := by simp [trimPrefix, hasPrefix]
    rw [this]
    exact digs_dec _ (by omega)
  · rw [if_neg hv]
    have hne : trimPrefix (decDigits v.toNat) [45] = decDigits v.toNat := by
      obtain ⟨c, r, e, hc⟩ := dec_head v.toNat (by omega)
      have hd := dec_dig v.toNat c (by rw [e]; simp)
      rw [e]
      unfold trimPrefix
      rw [if_neg]
      intro hp
      simp [hasPrefix] at hp
      subst hp
      simp at hd
    rw [hne]
    exact digs_dec _ (by omega)
theorem val_itoa (v : Int) (h0 : -2147483648 ≤ v) (h1 : v ≤ 2147483647) : valO ⟨(itoa v).toArray⟩ = some v := by
  apply valO_ok
  simp only []
  exact intB_itoa 32 (by decide) (by decide) v (by simp; omega) (by simp; omega)
theorem ib_none (c : UInt8) : ∀ l : List UInt8, c ∉ l → indexByte l c = -1
  | [], _ => rfl
  | b :: l, h => by
    unfold indexByte
    have hb : (b == c) = false := by rw [beq_eq_false_iff_ne]; intro e; exact h (by simp [e])
    rw [hb, ib_none c l (fun x => h (by simp [x]))]
    rfl
theorem ib_hit (c : UInt8) (b : List UInt8) : ∀ a : List UInt8, c ∉ a → indexByte (a ++ c :: b) c = a.length
  | [], _ => by simp [indexByte]
  | x :: a, h => by
    have hx : (x == c) = false := by rw [beq_eq_false_iff_ne]; intro e; exact h (by simp [e])
    have ih := ib_hit c b a (fun y => h (by simp [y]))
    rw [List.cons_append]
    unfold indexByte
    rw [hx, ih]
    have : ((a.length : Int) == -1) = false := by rw [beq_eq_false_iff_ne]; omega
    simp [this]
theorem cut_line (a b : List UInt8) (h : (10 : UInt8) ∉ a) : Lib.cut (a ++ 10 :: b) [10] = (a, b, true) := by
  unfold Lib.cut
  rw [index_one, ib_hit 10 b a h, if_pos (by omega)]
  simp
theorem words_one (a : List UInt8) (h : (32 : UInt8) ∉ a) : wordsB ⟨a.toArray⟩ = [⟨a.toArray⟩] := by
  unfold wordsB
  exact splitB_miss _ _ _ _ (by show index a [32] = -1; rw [index_one]; exact ib_none _ _ h)
theorem words_cons (a b : List UInt8) (h : (32 : UInt8) ∉ a) : wordsB ⟨(a ++ 32 :: b).toArray⟩ = ⟨a.toArray⟩ :: wordsB ⟨b.toArray⟩ := by
  have hi : indexB ⟨(a ++ 32 :: b).toArray⟩ spB = (a.length : Nat) := by show index (a ++ 32 :: b) [32] = _; rw [index_one]; exact ib_hit _ _ _ h
  have e2 : (⟨(a ++ 32 :: b).toArray⟩ : ByteArray).extract (a.length + spB.size) (⟨(a ++ 32 :: b).toArray⟩ : ByteArray).size = ⟨b.toArray⟩ := by
    apply bytes_of
    rw [extract_toList]
    simp [spB, ByteArray.size]
    apply List.take_of_length_le
    omega
  have e1 : (⟨(a ++ 32 :: b).toArray⟩ : ByteArray).extract 0 (a.length + 0) = ⟨a.toArray⟩ := by
    apply bytes_of
    rw [extract_toList]
    simp
  unfold wordsB
  rw [countB_hit _ _ _ (by decide) hi, Nat.add_comm, splitB_hit _ _ _ _ _ hi, e1, e2]
/-- A line without its end. -/
def bodyT (p : Pk) : List UInt8 := kwL p.1 ++ (if p.1 = 2 then [] else [32] ++ Lib.itoa p.2.1) ++ (if p.1 = 1 then [] else [32] ++ Lib.itoa p.2.2)
theorem line_body (p : Pk) : lineT p = bodyT p ++ [10] := rfl
theorem body_free (p : Pk) : (10 : UInt8) ∉ bodyT p := by
  unfold bodyT
  have h1 := not_dig 10 (.inr rfl) p.2.1
  have h2 := not_dig 10 (.inr rfl) p.2.2
  have hk : (10 : UInt8) ∉ kwL p.1 := by unfold kwL; split <;> (try split) <;> decide
  simp only [List.mem_append, not_or]
  refine ⟨⟨hk, ?_⟩, ?_⟩
  · split
    · simp
    · simp [h1]
  · split
    · simp
    · simp [h2]
theorem line_back (p : Pk) (h : checkL p = 0) : lineL ⟨(bodyT p).toArray⟩ = (p, 0) := by
  obtain ⟨k, t, c⟩ := p
  have hc := h
  unfold checkL at hc
  simp only at hc
  split at hc
  · cases hc
  rename_i hk
  split at hc
  · cases hc
  rename_i ht
  split at hc
  · cases hc
  rename_i hch
  have n1 := not_dig 32 (.inl rfl) t
  have n2 := not_dig 32 (.inl rfl) c
  rcases (show k = 0 ∨ k = 1 ∨ k = 2 by omega) with rfl | rfl | rfl
  · have e : bodyT (0, t, c) = [115, 116, 101, 112] ++ 32 :: (itoa t ++ 32 :: itoa c) := by simp [bodyT, kwL]
    have hw : wordsB ⟨(bodyT (0, t, c)).toArray⟩ = [stepB, ⟨(itoa t).toArray⟩, ⟨(itoa c).toArray⟩] := by
      rw [e, words_cons _ _ (by decide), words_cons _ _ n1, words_one _ n2]; rfl
    unfold lineL
    rw [hw]
    have hkd : kindL stepB = some 0 := by simp [kindL]
    simp only [hkd]
    rw [if_pos ⟨rfl, by simp [allCan, can_itoa]⟩]
    simp only [List.getD_cons_zero, List.length_cons, List.length_nil]
    rw [if_neg (by decide), if_neg (by decide)]
    simp only [List.getD]
    simp [val_itoa t (by omega) (by omega), val_itoa c (by omega) (by omega), pickL, h]
  · have c0 : c = 0 := by
      rcases Classical.em (c = 0) with x | x
      · exact x
      · exact absurd (Or.inl ⟨rfl, x⟩) hch
    subst c0
    have e : bodyT (1, t, 0) = [115, 116, 111, 112] ++ 32 :: itoa t := by simp [bodyT, kwL]
    have hw : wordsB ⟨(bodyT (1, t, 0)).toArray⟩ = [stopB, ⟨(itoa t).toArray⟩] := by
      rw [e, words_cons _ _ (by decide), words_one _ n1]; rfl
    unfold lineL
    rw [hw]
    have hkd : kindL stopB = some 1 := by decide +kernel
    simp only [hkd]
    rw [if_pos ⟨rfl, by simp [allCan, can_itoa]⟩]
    rw [if_neg (by decide)]
    simp [val_itoa t (by omega) (by omega), pickL, h]
  · have t0 : t = 0 := by
      rcases Classical.em (t = 0) with x | x
      · exact x
      · exact absurd (Or.inl ⟨rfl, x⟩) ht
    subst t0
    have e : bodyT (2, 0, c) = [99, 114, 97, 115, 104] ++ 32 :: itoa c := by simp [bodyT, kwL]
    have hw : wordsB ⟨(bodyT (2, 0, c)).toArray⟩ = [crashB, ⟨(itoa c).toArray⟩] := by
      rw [e, words_cons _ _ (by decide), words_one _ n2]; rfl
    unfold lineL
    rw [hw]
    have hkd : kindL crashB = some 2 := by decide +kernel
    simp only [hkd]
    rw [if_pos ⟨rfl, by simp [allCan, can_itoa]⟩]
    simp [val_itoa c (by omega) (by omega), pickL, h]
theorem text_cons (p : Pk) (r : List Pk) : textL (p :: r) = bodyT p ++ 10 :: textL r := by
  show lineT p ++ textL r = _
  rw [line_body]; simp
theorem go_text : ∀ (L : List Pk) (f : Nat) (acc : List Pk), badL L = 0 → (textL L).length < f → acc.length + L.length ≤ 4096 → parseGo f (textL L) acc = (acc ++ L, 0, 0)
  | [], f, acc, _, hf, _ => by
    obtain ⟨g, rfl⟩ : ∃ g, f = g + 1 := ⟨f - 1, by omega⟩
    simp [textL, parseGo]
  | p :: r, f, acc, hb, hf, hl => by
    obtain ⟨g, rfl⟩ : ∃ g, f = g + 1 := ⟨f - 1, by omega⟩
    have hp : checkL p = 0 := by
      simp only [badL] at hb
      split at hb
      · assumption
      · exact absurd hb (by assumption)
    have hr : badL r = 0 := by
      simp only [badL] at hb
      rw [if_pos hp] at hb; exact hb
    rw [text_cons] at hf ⊢
    rw [parseGo, if_neg (by simp), cut_line _ _ (body_free p)]
    simp only [line_back p hp]
    rw [if_pos]
    · rw [go_text r g (acc ++ [p]) hr (by simp at hf; omega) (by simp at hl ⊢; omega)]
      simp
    · unfold errL
      simp at hl
      simp; omega
theorem parse_text (L : List Pk) (hb : badL L = 0) (hs : (textL L).length ≤ 65536) (hl : L.length ≤ 4096) : parseL ⟨(textL L).toArray⟩ = (L, 0, 0) := by
  unfold parseL
  rw [if_pos (by simpa [ByteArray.size] using hs)]
  rw [show (⟨(textL L).toArray⟩ : ByteArray).data.toList = textL L from rfl, go_text L _ [] hb (by simp [ByteArray.size]) (by simpa using hl)]
  simp
end Go.Proofs.YtpgcnejofnhhfaaDoor
