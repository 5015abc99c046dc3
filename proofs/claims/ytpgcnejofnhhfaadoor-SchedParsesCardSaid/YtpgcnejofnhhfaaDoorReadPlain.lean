/- How the reference reads a line, as plain functions; it is how the package reads it; a line that is read prints as it was. -/
import Derived.Test.YtpgcnejofnhhfaaDoorInv
namespace Go.Proofs.YtpgcnejofnhhfaaDoor
open Go Go.Lib

/-- One more byte of a line: the words so far. -/
def stepW (acc : List (List UInt8)) (c : UInt8) : List (List UInt8) := if c = 32 then acc ++ [[]] else acc.dropLast ++ [acc.getLastD [] ++ [c]]
def wordsF (l : List UInt8) : List (List UInt8) := l.foldl stepW [[]]
theorem stepW_last (pre : List (List UInt8)) (x : List UInt8) (c : UInt8) : stepW (pre ++ [x]) c = if c = 32 then pre ++ [x] ++ [[]] else pre ++ [x ++ [c]] := by
  unfold stepW
  split
  · rfl
  · simp
theorem foldW_pre : ∀ (l : List UInt8) (pre : List (List UInt8)) (x : List UInt8), l.foldl stepW (pre ++ [x]) = pre ++ l.foldl stepW [x]
  | [], _, _ => rfl
  | c :: l, pre, x => by
    have e := stepW_last [] x c
    rw [List.nil_append] at e
    simp only [List.foldl_cons]
    rw [stepW_last, e]
    split
    · rw [foldW_pre l (pre ++ [x]) [], foldW_pre l [x] []]
      simp
    · rw [foldW_pre l pre (x ++ [c])]
      simp
theorem foldW_free : ∀ (a : List UInt8) (x : List UInt8), (32 : UInt8) ∉ a → a.foldl stepW [x] = [x ++ a]
  | [], x, _ => by simp
  | c :: a, x, h => by
    have e := stepW_last [] x c
    rw [List.nil_append] at e
    simp only [List.foldl_cons]
    rw [e, if_neg (fun hc => h (by simp [hc])), List.nil_append, foldW_free a (x ++ [c]) (fun hc => h (by simp [hc]))]
    simp
theorem wordsF_one (a : List UInt8) (h : (32 : UInt8) ∉ a) : wordsF a = [a] := by
  unfold wordsF; rw [foldW_free a [] h]; rfl
theorem wordsF_cons (a b : List UInt8) (h : (32 : UInt8) ∉ a) : wordsF (a ++ 32 :: b) = a :: wordsF b := by
  unfold wordsF
  rw [List.foldl_append, foldW_free a [] h, List.nil_append, List.foldl_cons]
  have e := stepW_last [] a 32
  rw [List.nil_append, if_pos rfl] at e
  rw [e, foldW_pre b [a] []]
  rfl
theorem free_or (x : UInt8) : ∀ l : List UInt8, x ∉ l ∨ ∃ a b, l = a ++ x :: b ∧ x ∉ a
  | [] => .inl (by simp)
  | c :: l => by
    by_cases hc : x = c
    · exact .inr ⟨[], l, by simp [hc], by simp⟩
    · rcases free_or x l with h | ⟨a, b, rfl, h⟩
      · exact .inl (by simp [hc, h])
      · exact .inr ⟨c :: a, b, by simp, by simp [hc, h]⟩
theorem words_eq : ∀ (n : Nat) (l : List UInt8), l.length ≤ n → wordsB ⟨l.toArray⟩ = (wordsF l).map (fun x => ⟨x.toArray⟩)
  | 0, l, h => by
    obtain rfl := List.length_eq_zero_iff.1 (by omega : l.length = 0)
    rw [words_one _ (by simp), wordsF_one _ (by simp)]; rfl
  | n + 1, l, h => by
    rcases free_or 32 l with hf | ⟨a, b, rfl, hf⟩
    · rw [words_one _ hf, wordsF_one _ hf]; rfl
    · rw [words_cons _ _ hf, wordsF_cons _ _ hf, words_eq n b (by simp at h; omega)]; rfl
/-- The words, joined again. -/
def joinW : List (List UInt8) → List UInt8
  | [] => []
  | [x] => x
  | x :: y :: r => x ++ 32 :: joinW (y :: r)
theorem wordsF_ne (l : List UInt8) : wordsF l ≠ [] := by
  rcases free_or 32 l with hf | ⟨a, b, rfl, hf⟩
  · rw [wordsF_one _ hf]; simp
  · rw [wordsF_cons _ _ hf]; simp
theorem join_words : ∀ (n : Nat) (l : List UInt8), l.length ≤ n → joinW (wordsF l) = l
  | 0, l, h => by
    obtain rfl := List.length_eq_zero_iff.1 (by omega : l.length = 0)
    rfl
  | n + 1, l, h => by
    rcases free_or 32 l with hf | ⟨a, b, rfl, hf⟩
    · rw [wordsF_one _ hf]; rfl
    · have ih := join_words n b (by simp at h; omega)
      rw [wordsF_cons _ _ hf]
      cases hw : wordsF b with
      | nil => exact absurd hw (wordsF_ne b)
      | cons y r => rw [hw] at ih; simp only [joinW]; rw [ih]
/-- The value of digits behind a. -/
def valF (a : Nat) (l : List UInt8) : Nat := l.foldl (fun n c => n * 10 + (c.toNat - 48)) a
theorem valF_ge : ∀ (l : List UInt8) (a : Nat), a ≤ valF a l
  | [], a => Nat.le_refl _
  | c :: l, a => by
    have := valF_ge l (a * 10 + (c.toNat - 48))
    show a ≤ valF (a * 10 + (c.toNat - 48)) l
    omega
/-- One more digit of the reference's number. -/
def stepN (s : Int × Int) (c : UInt8) : Int × Int := if 1099511627776 < 10 * s.1 + (c.toNat : Int) - 48 then (1099511627776, 3) else (10 * s.1 + (c.toNat : Int) - 48, s.2)
def numU (l : List UInt8) : Int × Int := l.foldl stepN (0, 0)
theorem stepN_big : ∀ l : List UInt8, (∀ c ∈ l, IsDig c) → l.foldl stepN (1099511627776, 3) = (1099511627776, 3)
  | [], _ => rfl
  | c :: l, h => by
    have hc := h c (by simp)
    unfold IsDig at hc
    rw [List.foldl_cons]
    have : stepN (1099511627776, 3) c = (1099511627776, 3) := by unfold stepN; rw [if_pos (by simp only; omega)]
    rw [this]
    exact stepN_big l (fun d hd => h d (by simp [hd]))
theorem stepN_val : ∀ (l : List UInt8) (a : Nat), (∀ c ∈ l, IsDig c) → a ≤ 1099511627776 → l.foldl stepN ((a : Int), 0) = if valF a l ≤ 1099511627776 then ((valF a l : Int), 0) else (1099511627776, 3)
  | [], a, _, ha => by rw [show valF a [] = a from rfl, if_pos ha]; rfl
  | c :: l, a, h, ha => by
    have hc := h c (by simp)
    unfold IsDig at hc
    have hr := fun d (hd : d ∈ l) => h d (by simp [hd])
    rw [List.foldl_cons, show valF a (c :: l) = valF (a * 10 + (c.toNat - 48)) l from rfl]
    by_cases hb : a * 10 + (c.toNat - 48) ≤ 1099511627776
    · have : stepN ((a : Int), 0) c = (((a * 10 + (c.toNat - 48) : Nat) : Int), 0) := by
        unfold stepN
        rw [if_neg (by simp only; omega)]
        simp only [Prod.mk.injEq, and_true]
        omega
      rw [this]
      exact stepN_val l _ hr hb
    · have : stepN ((a : Int), 0) c = (1099511627776, 3) := by unfold stepN; rw [if_pos (by simp only; omega)]
      have hg := valF_ge l (a * 10 + (c.toNat - 48))
      rw [this, stepN_big l hr, if_neg (by omega)]
theorem uintM_val (M : Nat) (hM : M < 1844674407370955162) : ∀ (l : List UInt8) (a : Nat), (∀ c ∈ l, IsDig c) → a ≤ M → parseUintM M a l = if valF a l ≤ M then .ok (valF a l) else .range
  | [], a, _, ha => by rw [show valF a [] = a from rfl, if_pos ha]; rfl
  | c :: l, a, h, ha => by
    have hc := h c (by simp)
    unfold IsDig at hc
    have hr := fun d (hd : d ∈ l) => h d (by simp [hd])
    rw [show valF a (c :: l) = valF (a * 10 + (c.toNat - 48)) l from rfl]
    unfold parseUintM
    rw [if_pos hc, if_neg (by omega)]
    by_cases hb : M < a * 10 + (c.toNat - 48)
    · have hg := valF_ge l (a * 10 + (c.toNat - 48))
      rw [if_pos hb, if_neg (by omega)]
    · rw [if_neg hb]
      exact uintM_val M hM l _ hr (by omega)
theorem digs_iff {l : List UInt8} (h : digsL l = true) : ∃ c r, l = c :: r ∧ c.toNat ≠ 48 ∧ ∀ d ∈ l, IsDig d := by
  cases l with
  | nil => cases h
  | cons c r =>
    unfold digsL at h
    rw [Bool.and_eq_true, bne_iff_ne] at h
    refine ⟨c, r, rfl, h.1, fun d hd => ?_⟩
    have := List.all_eq_true.1 h.2 d hd
    unfold digB at this
    simpa [IsDig] using this
theorem valF_snoc (m : List UInt8) (c : UInt8) (a : Nat) : valF a (m ++ [c]) = valF a m * 10 + (c.toNat - 48) := by unfold valF; simp
theorem valF_pos {c : UInt8} {r : List UInt8} (hc : c.toNat ≠ 48) (hd : IsDig c) : 1 ≤ valF 0 (c :: r) := by
  have := valF_ge r (0 * 10 + (c.toNat - 48))
  unfold IsDig at hd
  show 1 ≤ valF (0 * 10 + (c.toNat - 48)) r
  omega
theorem dig_of (c : UInt8) (hd : IsDig c) : UInt8.ofNat (48 + (c.toNat - 48)) = c := by
  unfold IsDig at hd
  rw [show 48 + (c.toNat - 48) = c.toNat by omega]
  exact UInt8.ofNat_toNat
theorem dec_val : ∀ (n : Nat) (l : List UInt8), l.length = n → digsL l = true → decDigits (valF 0 l) = l
  | 0, l, hn, h => by
    obtain rfl := List.length_eq_zero_iff.1 hn
    cases h
  | n + 1, l, hn, h => by
    obtain ⟨c, r, rfl, hc, hd⟩ := digs_iff h
    rcases List.eq_nil_or_concat r with rfl | ⟨m, x, rfl⟩
    · have h1 := hd c (by simp)
      have e : valF 0 [c] = c.toNat - 48 := by simp [valF]
      have h2 := h1
      unfold IsDig at h2
      rw [e, decDigits, dif_pos (by omega), dig_of c h1]
    · rw [List.concat_eq_append] at *
      have hx := hd x (by simp)
      have hx2 := hx
      unfold IsDig at hx2
      have hm : digsL (c :: m) = true := by
        unfold digsL
        rw [Bool.and_eq_true, bne_iff_ne]
        refine ⟨hc, List.all_eq_true.2 fun d hdm => ?_⟩
        have := hd d (by rcases List.mem_cons.1 hdm with h | h <;> simp [h])
        unfold digB
        simpa [IsDig] using this
      have ih := dec_val n (c :: m) (by simp at hn ⊢; omega) hm
      have hp := valF_pos (r := m) hc (hd c (by simp))
      rw [show c :: (m ++ [x]) = (c :: m) ++ [x] from rfl, valF_snoc, decDigits, dif_neg (by omega)]
      rw [show (valF 0 (c :: m) * 10 + (x.toNat - 48)) / 10 = valF 0 (c :: m) by omega, show (valF 0 (c :: m) * 10 + (x.toNat - 48)) % 10 = x.toNat - 48 by omega, ih, dig_of x hx]
/-- The signed value of a number in canonical form. -/
def svL : List UInt8 → Int
  | [] => 0
  | c :: r => if c = 45 then -(valF 0 r : Int) else (valF 0 (c :: r) : Int)
/-- What the reference's number answers. -/
def numL (l : List UInt8) : Int × Int := if canL l = true then (match l with
  | [] => (0, 5)
  | c :: r => if c = 45 then (-(numU r).1, (numU r).2) else numU (c :: r)) else (0, 5)
theorem can_cases {l : List UInt8} (h : canL l = true) : l = [48] ∨ (digsL l = true ∧ l.head? ≠ some 45) ∨ ∃ r, l = 45 :: r ∧ digsL r = true := by
  unfold canL at h
  rw [Bool.or_eq_true] at h
  rcases h with h | h
  · exact .inl (eq_of_beq h)
  · cases l with
    | nil => cases h
    | cons c r =>
      by_cases hc : c = 45
      · subst hc
        have : trimPrefix (45 :: r) [45] = r := by simp [trimPrefix, hasPrefix]
        rw [this] at h
        exact .inr (.inr ⟨r, rfl, h⟩)
      · have : trimPrefix (c :: r) [45] = c :: r := by
          unfold trimPrefix
          rw [if_neg]
          intro hp
          simp [hasPrefix] at hp
          exact hc hp.symm
        rw [this] at h
        exact .inr (.inl ⟨h, by simpa using hc⟩)
theorem num_can {l : List UInt8} (h : canL l = true) : (numL l = if -1099511627776 ≤ svL l ∧ svL l ≤ 1099511627776 then (svL l, 0) else (if svL l < 0 then (-1099511627776, 3) else (1099511627776, 3))) ∧ (valO ⟨l.toArray⟩ = if -2147483648 ≤ svL l ∧ svL l ≤ 2147483647 then some (svL l) else none) ∧ itoa (svL l) = l := by
  rcases can_cases h with rfl | ⟨hd, hh⟩ | ⟨r, rfl, hd⟩
  · refine ⟨?_, ?_, ?_⟩ <;> decide +kernel
  · obtain ⟨c, r, rfl, hc, hdg⟩ := digs_iff hd
    have hne : ¬ c = 45 := by simpa using hh
    have hc45 : ¬ c.toNat = 45 := by have := hdg c (by simp); unfold IsDig at this; omega
    have hc43 : ¬ c.toNat = 43 := by have := hdg c (by simp); unfold IsDig at this; omega
    have es : svL (c :: r) = (valF 0 (c :: r) : Int) := by simp only [svL]; rw [if_neg hne]
    refine ⟨?_, ?_, ?_⟩
    · unfold numL
      rw [if_pos h]
      simp only
      rw [if_neg hne, es]
      have := stepN_val (c :: r) 0 hdg (by omega)
      unfold numU
      rw [show ((0 : Int), (0 : Int)) = (((0 : Nat) : Int), 0) from rfl, this]
      by_cases hv : valF 0 (c :: r) ≤ 1099511627776
      · rw [if_pos hv, if_pos (by omega)]
      · rw [if_neg hv, if_neg (by omega), if_neg (by omega)]
    · rw [es]
      have hp := uintM_val (2 ^ 32 - 1) (by decide) (c :: r) 0 hdg (by omega)
      unfold valO
      simp only
      unfold parseIntB
      simp only
      rw [if_neg (by omega)]
      unfold parseUintB
      rw [if_neg (by simp), hp]
      by_cases hv : valF 0 (c :: r) ≤ 2 ^ 32 - 1
      · rw [if_pos hv]
        simp only
        by_cases h2 : 2 ^ (32 - 1) ≤ valF 0 (c :: r)
        · rw [if_pos ⟨hc45, h2⟩, if_neg (by omega)]
        · rw [if_neg (fun x => h2 x.2), if_neg (fun x => hc45 x.1), if_neg hc45, if_pos (by omega)]
      · rw [if_neg hv, if_neg (by omega)]
    · rw [es]
      unfold itoa
      rw [if_neg (by omega), Int.toNat_natCast]
      exact dec_val _ _ rfl hd
  · obtain ⟨c, q, rfl, hc, hdg⟩ := digs_iff hd
    have hp1 := valF_pos (r := q) hc (hdg c (by simp))
    have es : svL (45 :: c :: q) = -(valF 0 (c :: q) : Int) := by simp only [svL]; rw [if_pos trivial]
    refine ⟨?_, ?_, ?_⟩
    · unfold numL
      rw [if_pos h]
      simp only
      rw [if_pos trivial, es]
      have := stepN_val (c :: q) 0 hdg (by omega)
      unfold numU
      rw [show ((0 : Int), (0 : Int)) = (((0 : Nat) : Int), 0) from rfl, this]
      by_cases hv : valF 0 (c :: q) ≤ 1099511627776
      · rw [if_pos hv, if_pos (by omega)]
      · rw [if_neg hv, if_neg (by omega), if_pos (by omega)]
    · rw [es]
      have hp := uintM_val (2 ^ 32 - 1) (by decide) (c :: q) 0 hdg (by omega)
      unfold valO
      simp only
      unfold parseIntB
      simp only
      rw [if_pos (.inr (by decide))]
      unfold parseUintB
      rw [if_neg (by simp), hp]
      have h45 : (45 : UInt8).toNat = 45 := by decide
      by_cases hv : valF 0 (c :: q) ≤ 2 ^ 32 - 1
      · rw [if_pos hv]
        simp only
        rw [if_neg (fun x => x.1 h45)]
        by_cases h2 : 2 ^ (32 - 1) < valF 0 (c :: q)
        · rw [if_pos ⟨h45, h2⟩, if_neg (by omega)]
        · rw [if_neg (fun x => h2 x.2), if_pos h45, if_pos (by omega)]
      · rw [if_neg hv, if_neg (by omega)]
    · rw [es]
      unfold itoa
      rw [if_pos (by omega), show (-(valF 0 (c :: q) : Int)).natAbs = valF 0 (c :: q) by omega]
      rw [dec_val _ _ rfl hd]
theorem num_no {l : List UInt8} (h : canL l = false) : numL l = (0, 5) := by unfold numL; rw [if_neg (by rw [h]; decide)]
theorem num_code {l : List UInt8} (h : canL l = true) : (numL l).2 = 0 ∨ (numL l).2 = 3 := by
  rw [(num_can h).1]
  split
  · exact .inl rfl
  · split <;> exact .inr rfl
/-- The end of the reference's read: the pick with its numbers, or what is wrong. -/
def endR (k t c bad : Int) : Pk × Int := if bad ≠ 0 ∨ checkL (k, t, c) ≠ 0 then (zPk, 3) else ((k, t, c), 0)
/-- What the reference's read answers. -/
def readW (ws : List (List UInt8)) : Pk × Int := match ws with
  | [h, a, b] => if h = [115, 116, 101, 112] then (if (numL a).2 = 5 ∨ (numL b).2 = 5 then (zPk, 5) else endR 0 (numL a).1 (numL b).1 (if (numL b).2 ≠ 0 then (numL b).2 else (numL a).2)) else (zPk, 5)
  | [h, a] => if h = [115, 116, 111, 112] then (if (numL a).2 = 5 then (zPk, 5) else endR 1 (numL a).1 0 (numL a).2) else if h = [99, 114, 97, 115, 104] then (if (numL a).2 = 5 then (zPk, 5) else endR 2 0 (numL a).1 (numL a).2) else (zPk, 5)
  | _ => (zPk, 5)
theorem kind_of (h : List UInt8) : kindL ⟨h.toArray⟩ = if h = [115, 116, 101, 112] then some 0 else if h = [115, 116, 111, 112] then some 1 else if h = [99, 114, 97, 115, 104] then some 2 else none := by
  have key : ∀ u : List UInt8, ((⟨h.toArray⟩ : ByteArray) = ⟨u.toArray⟩) ↔ h = u := fun u => ⟨fun e => by have := congrArg (fun x : ByteArray => x.data.toList) e; simpa using this, fun e => by rw [e]⟩
  unfold kindL stepB stopB crashB
  simp only [key]
theorem num_rel {a : List UInt8} (h : canL a = true) : (∃ x, numL a = (x, 0) ∧ valO ⟨a.toArray⟩ = some x ∧ -2147483648 ≤ x ∧ x ≤ 2147483647) ∨ (∃ x, numL a = (x, 0) ∧ valO ⟨a.toArray⟩ = none ∧ ¬ (-2147483648 ≤ x ∧ x ≤ 2147483647)) ∨ (∃ x, numL a = (x, 3) ∧ valO ⟨a.toArray⟩ = none) := by
  obtain ⟨e1, e2, -⟩ := num_can h
  rw [e1, e2]
  by_cases hr : -2147483648 ≤ svL a ∧ svL a ≤ 2147483647
  · rw [if_pos hr, if_pos (by omega)]
    exact .inl ⟨_, rfl, rfl, hr⟩
  · rw [if_neg hr]
    by_cases hb : -1099511627776 ≤ svL a ∧ svL a ≤ 1099511627776
    · rw [if_pos hb]
      exact .inr (.inl ⟨_, rfl, rfl, hr⟩)
    · rw [if_neg hb]
      right; right
      split
      · exact ⟨_, rfl, rfl⟩
      · exact ⟨_, rfl, rfl⟩
theorem wide1 {x : Int} (h : ¬ (-2147483648 ≤ x ∧ x ≤ 2147483647)) : ¬ checkL (1, x, 0) = 0 := by
  intro hq
  unfold checkL at hq
  simp only at hq
  rw [if_neg (by omega), if_pos (.inr ⟨by decide, by omega⟩)] at hq
  cases hq
theorem wide2 {x : Int} (h : ¬ (-2147483648 ≤ x ∧ x ≤ 2147483647)) : ¬ checkL (2, 0, x) = 0 := by
  intro hq
  unfold checkL at hq
  simp only at hq
  rw [if_neg (by omega), if_neg (by simp), if_pos (.inr (by omega))] at hq
  cases hq
theorem wide0 {x : Int} (h : ¬ (-2147483648 ≤ x ∧ x ≤ 2147483647)) (y : Int) : ¬ checkL (0, x, y) = 0 := by
  intro hq
  unfold checkL at hq
  simp only at hq
  rw [if_neg (by omega), if_pos (.inr ⟨by decide, by omega⟩)] at hq
  cases hq
theorem wide0' {x : Int} (h : ¬ (-2147483648 ≤ x ∧ x ≤ 2147483647)) (y : Int) : ¬ checkL (0, y, x) = 0 := by
  intro hq
  unfold checkL at hq
  simp only at hq
  rw [if_neg (by omega)] at hq
  split at hq
  · cases hq
  · rw [if_pos (.inr (by omega))] at hq
    cases hq
theorem one_stop (a : List UInt8) (hc : canL a = true) : pickL 1 (valO ⟨a.toArray⟩) (some 0) = endR 1 (numL a).1 0 (numL a).2 := by
  rcases num_rel hc with ⟨x, h1, h2, -⟩ | ⟨x, h1, h2, h3⟩ | ⟨x, h1, h2⟩
  · rw [h1, h2]; unfold pickL endR; simp only
    by_cases hq : checkL (1, x, 0) = 0 <;> simp [hq]
  · rw [h1, h2]; unfold pickL endR; simp [wide1 h3]
  · rw [h1, h2]; unfold pickL endR; simp
theorem one_crash (a : List UInt8) (hc : canL a = true) : pickL 2 (some 0) (valO ⟨a.toArray⟩) = endR 2 0 (numL a).1 (numL a).2 := by
  rcases num_rel hc with ⟨x, h1, h2, -⟩ | ⟨x, h1, h2, h3⟩ | ⟨x, h1, h2⟩
  · rw [h1, h2]; unfold pickL endR; simp only
    by_cases hq : checkL (2, 0, x) = 0 <;> simp [hq]
  · rw [h1, h2]; unfold pickL endR; simp [wide2 h3]
  · rw [h1, h2]; unfold pickL endR; simp
theorem two_step (a b : List UInt8) (hc : canL a = true) (hd : canL b = true) : pickL 0 (valO ⟨a.toArray⟩) (valO ⟨b.toArray⟩) = endR 0 (numL a).1 (numL b).1 (if (numL b).2 ≠ 0 then (numL b).2 else (numL a).2) := by
  rcases num_rel hc with ⟨x, h1, h2, -⟩ | ⟨x, h1, h2, h3⟩ | ⟨x, h1, h2⟩ <;> rcases num_rel hd with ⟨y, g1, g2, -⟩ | ⟨y, g1, g2, g3⟩ | ⟨y, g1, g2⟩
  · rw [h1, h2, g1, g2]; unfold pickL endR; simp only
    by_cases hq : checkL (0, x, y) = 0 <;> simp [hq]
  · rw [h1, h2, g1, g2]; unfold pickL endR; simp [wide0' g3 x]
  · rw [h1, h2, g1, g2]; unfold pickL endR; simp
  · rw [h1, h2, g1, g2]; unfold pickL endR; simp [wide0 h3 y]
  · rw [h1, h2, g1, g2]; unfold pickL endR; simp [wide0 h3 y]
  · rw [h1, h2, g1, g2]; unfold pickL endR; simp
  · rw [h1, h2, g1, g2]; unfold pickL endR; simp
  · rw [h1, h2, g1, g2]; unfold pickL endR; simp
  · rw [h1, h2, g1, g2]; unfold pickL endR; simp
theorem code5 {a : List UInt8} (hc : canL a = true) : ¬ (numL a).2 = 5 := by
  rcases num_code hc with h | h <;> rw [h] <;> decide
theorem line_of (ws : List (List UInt8)) (s : ByteArray) (hw : wordsB s = ws.map (fun x => ⟨x.toArray⟩)) : lineL s = readW ws := by
  unfold lineL
  rw [hw]
  match ws with
  | [] => rfl
  | [h] =>
    simp only [List.map_cons, List.map_nil, kind_of, readW]
    by_cases h0 : h = [115, 116, 101, 112]
    · simp [h0, manyL]
    · by_cases h1 : h = [115, 116, 111, 112]
      · simp [h1, manyL]
      · by_cases h2 : h = [99, 114, 97, 115, 104]
        · simp [h2, manyL]
        · simp [h0, h1, h2]
  | [h, a] =>
    simp only [List.map_cons, List.map_nil, kind_of, readW]
    by_cases h0 : h = [115, 116, 101, 112]
    · simp [h0, manyL]
    · by_cases h1 : h = [115, 116, 111, 112]
      · cases hc : canL a with
        | false => simp [h1, manyL, allCan, hc, num_no hc]
        | true => simp [h1, manyL, allCan, hc, code5 hc, ← one_stop a hc]
      · by_cases h2 : h = [99, 114, 97, 115, 104]
        · cases hc : canL a with
          | false => simp [h2, manyL, allCan, hc, num_no hc]
          | true => simp [h2, manyL, allCan, hc, code5 hc, ← one_crash a hc]
        · simp [h0, h1, h2]
  | [h, a, b] =>
    simp only [List.map_cons, List.map_nil, kind_of, readW]
    by_cases h0 : h = [115, 116, 101, 112]
    · cases hc : canL a with
      | false => simp [h0, manyL, allCan, hc, num_no hc]
      | true =>
        cases hd : canL b with
        | false => simp [h0, manyL, allCan, hc, hd, num_no hd]
        | true =>
          have := two_step a b hc hd
          simp only [ne_eq, ite_not] at this
          simp [h0, manyL, allCan, hc, hd, code5 hc, code5 hd, ← this]
    · by_cases h1 : h = [115, 116, 111, 112]
      · simp [h1, manyL]
      · by_cases h2 : h = [99, 114, 97, 115, 104]
        · simp [h2, manyL]
        · simp [h0, h1, h2]
  | h :: a :: b :: c :: r =>
    simp only [List.map_cons, kind_of, readW]
    have hl : ∀ k : Int, manyL k ≤ 2 := fun k => by unfold manyL; split <;> decide
    split
    · rfl
    · rename_i k hk
      rw [if_neg (fun x => by have h1 := x.1; have h2 := hl k; simp at h1; omega)]
theorem line_read (l : List UInt8) : lineL ⟨l.toArray⟩ = readW (wordsF l) := line_of _ _ (words_eq l.length l (Nat.le_refl _))
theorem num_zero {a : List UInt8} (h5 : ¬ (numL a).2 = 5) (h0 : (numL a).2 = 0) : itoa (numL a).1 = a := by
  cases hc : canL a with
  | false => rw [num_no hc] at h5; exact absurd rfl h5
  | true =>
    obtain ⟨e1, -, e3⟩ := num_can hc
    rw [e1] at h0 ⊢
    split at h0
    · rename_i hr
      rw [if_pos hr]; exact e3
    · split at h0 <;> cases h0
theorem endR_ok {k t c bad : Int} {p : Pk} (h : endR k t c bad = (p, 0)) : bad = 0 ∧ checkL (k, t, c) = 0 ∧ p = (k, t, c) := by
  unfold endR at h
  split at h
  · simp only [Prod.mk.injEq] at h; exact absurd h.2 (by decide)
  · rename_i hn
    simp only [Prod.mk.injEq, and_true] at h
    refine ⟨?_, ?_, h.symm⟩
    · rcases Classical.em (bad = 0) with x | x
      · exact x
      · exact absurd (Or.inl x) hn
    · rcases Classical.em (checkL (k, t, c) = 0) with x | x
      · exact x
      · exact absurd (Or.inr x) hn
theorem line_text {l : List UInt8} {p : Pk} (h : lineL ⟨l.toArray⟩ = (p, 0)) : bodyT p = l ∧ checkL p = 0 := by
  rw [line_read] at h
  have hj := join_words l.length l (Nat.le_refl _)
  unfold readW at h
  split at h
  · rename_i w0 a b hw
    rw [hw] at hj
    split at h
    · rename_i h0
      split at h
      · simp only [Prod.mk.injEq] at h; exact absurd h.2 (by decide)
      · rename_i h5
        obtain ⟨e1, e2, rfl⟩ := endR_ok h
        have hb : (numL b).2 = 0 := by
          rcases Classical.em ((numL b).2 = 0) with x | x
          · exact x
          · rw [if_pos x] at e1; exact e1
        rw [if_neg (by rw [hb]; simp)] at e1
        refine ⟨?_, e2⟩
        rw [← hj, h0]
        simp only [bodyT, kwL, joinW]
        simp [num_zero (fun x => h5 (.inl x)) e1, num_zero (fun x => h5 (.inr x)) hb]
    · simp only [Prod.mk.injEq] at h; exact absurd h.2 (by decide)
  · rename_i w0 a hw
    rw [hw] at hj
    split at h
    · rename_i h0
      split at h
      · simp only [Prod.mk.injEq] at h; exact absurd h.2 (by decide)
      · rename_i h5
        obtain ⟨e1, e2, rfl⟩ := endR_ok h
        refine ⟨?_, e2⟩
        rw [← hj, h0]
        simp only [bodyT, kwL, joinW]
        simp [num_zero h5 e1]
    · split at h
      · rename_i h0
        split at h
        · simp only [Prod.mk.injEq] at h; exact absurd h.2 (by decide)
        · rename_i h5
          obtain ⟨e1, e2, rfl⟩ := endR_ok h
          refine ⟨?_, e2⟩
          rw [← hj, h0]
          simp only [bodyT, kwL, joinW]
          simp [num_zero h5 e1]
      · simp only [Prod.mk.injEq] at h; exact absurd h.2 (by decide)
  · simp only [Prod.mk.injEq] at h; exact absurd h.2 (by decide)
theorem cut_none (s : List UInt8) (h : (10 : UInt8) ∉ s) : Lib.cut s [10] = (s, [], false) := by
  unfold Lib.cut
  rw [index_one, ib_none 10 s h, if_neg (by omega)]
theorem go_back : ∀ (f : Nat) (s : List UInt8) (acc L : List Pk), s.length < f → parseGo f s acc = (L, 0, 0) → ∃ M, L = acc ++ M ∧ textL M = s ∧ badL M = 0
  | 0, _, _, _, h, _ => absurd h (Nat.not_lt_zero _)
  | f + 1, s, acc, L, hf, h => by
    rw [parseGo] at h
    by_cases hs : s = []
    · rw [if_pos hs] at h
      simp only [Prod.mk.injEq, and_true] at h
      exact ⟨[], by simp [h], by rw [hs]; rfl, rfl⟩
    · rw [if_neg hs] at h
      rcases free_or 10 s with hn | ⟨a, b, rfl, hn⟩
      · rw [cut_none s hn] at h
        simp only [errL, if_true] at h
        rw [if_neg (by decide)] at h
        simp only [Prod.mk.injEq] at h
        exact absurd h.2.2 (by decide)
      · rw [cut_line a b hn] at h
        simp only at h
        split at h
        · rename_i he
          have hx : (lineL ⟨a.toArray⟩).2 = 0 := by
            unfold errL at he
            rw [if_neg (by decide)] at he
            split at he
            · cases he
            · exact he
          obtain ⟨M, e1, e2, e3⟩ := go_back f b _ L (by simp at hf; omega) h
          have hl : lineL ⟨a.toArray⟩ = ((lineL ⟨a.toArray⟩).1, 0) := by rw [← hx]
          obtain ⟨t1, t2⟩ := line_text hl
          refine ⟨(lineL ⟨a.toArray⟩).1 :: M, by rw [e1]; simp, by rw [text_cons, t1, e2], ?_⟩
          simp only [badL]
          rw [if_pos t2]; exact e3
        · rename_i he
          simp only [Prod.mk.injEq] at h
          exact absurd h.2.2 he
end Go.Proofs.YtpgcnejofnhhfaaDoor
