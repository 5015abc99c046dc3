/- Descriptors as lists: their words, what is wrong with them, what a memory image holds for an owner, logical words. -/
import Derived.Test.YtfegeahieajmkaaDoorMdFind
import Derived.Test.YtfegeahieajmkaaDoorLayFns2
namespace Go.Proofs.YtfegeahieajmkaaDoor
open Lay (startL sizeL checkI placeI placeAt mayI sizeI unitI threadI unitsL unitZ starts Ok checkI_ok unitI_ok mayI_ok)
/-- Owner, sequence number, status, entries. -/
abbrev Ds := Int × Int × Int × List En
def OkD (d : Ds) : Prop := (-9223372036854775808 ≤ d.1 ∧ d.1 < 9223372036854775808) ∧ (-9223372036854775808 ≤ d.2.1 ∧ d.2.1 < 9223372036854775808) ∧ (-9223372036854775808 ≤ d.2.2.1 ∧ d.2.2.1 < 9223372036854775808) ∧ ∀ e ∈ d.2.2.2, OkE e
def zE : En := (0, (0, 0, 0), 0, false)
def pw0 (e : En) : Wd := (e.1, if e.2.2.2 = true then 1 else 0, 0)
def pw1 (e : En) : Wd := (e.2.1.1, e.2.1.2.1, 0)
def pw2 (e : En) : Wd := (e.2.2.1, 0, 0)
def packL (e : En) : List Wd := [pw0 e, pw1 e, pw2 e]
def entW (a b c : Wd) : En := (a.1, (b.1, b.2.1, 0), c.1, a.2.1 == 1)
/-- The words are those of an entry. -/
def isEnt (a b c : Wd) : Bool := decide (0 ≤ a.1 ∧ a.1 < 4096) && (decide (pw0 (entW a b c) = a) && (decide (pw1 (entW a b c) = b) && decide (pw2 (entW a b c) = c)))
def unE (a b c : Wd) : En := if isEnt a b c = true then entW a b c else zE
def headL (d : Ds) : List Wd := [(d.2.2.1, IntKind.u32.wrap d.2.1, 0), ((d.2.2.2.length : Int), 0, 0)]
def bodyL (L : List En) : List Wd := L.flatMap packL
def wordsD (d : Ds) : List Wd := headL d ++ bodyL d.2.2.2
/-- The locations increase. -/
def ascB (L : List En) : Bool := (List.range L.length).all fun i => decide (i = 0) || decide (L[i - 1]!.1 < L[i]!.1)
def mayL (T C B : Int) (L : List En) : Bool := L.all fun e => mayI T C B e.1
/-- What is wrong with a descriptor. -/
def chkD (T C B : Int) (d : Ds) : Int :=
  if checkI T C B ≠ 0 then 1 else if (placeI T C B d.1).2 = 0 then 3 else if d.2.1 < 1 ∨ 16777215 < d.2.1 then 3 else if d.2.2.1 < 0 ∨ 3 < d.2.2.1 then 2
  else if chkL d.2.2.2 ≠ 0 then chkL d.2.2.2 else if ascB d.2.2.2 = false then 12 else if mayL T C B d.2.2.2 = false then 10
  else if (placeI T C B d.1).2 < d.2.2.2.length then 15 else 0
theorem packL_len (e : En) : (packL e).length = 3 := rfl
theorem bodyL_len (L : List En) : (bodyL L).length = 3 * L.length := by
  induction L with
  | nil => rfl
  | cons e r ih => rw [show bodyL (e :: r) = packL e ++ bodyL r from rfl, List.length_append, ih, packL_len, List.length_cons]; omega
theorem wordsD_len (d : Ds) : (wordsD d).length = 2 + 3 * d.2.2.2.length := by
  unfold wordsD; rw [List.length_append, bodyL_len]; rfl
theorem bodyL_snoc (L : List En) (e : En) : bodyL (L ++ [e]) = bodyL L ++ packL e := by
  unfold bodyL; rw [List.flatMap_append]; simp
theorem bodyL_take (L : List En) {k : Nat} (hk : k < L.length) : bodyL (L.take (k + 1)) = bodyL (L.take k) ++ packL L[k]! := by
  rw [take_snoc L hk, bodyL_snoc]
theorem bodyL_at (L : List En) (i j : Nat) (hi : i < L.length) (hj : j < 3) : (bodyL L)[3 * i + j]? = (packL L[i]!)[j]? := by
  induction L generalizing i with
  | nil => simp at hi
  | cons e r ih =>
    rw [show bodyL (e :: r) = packL e ++ bodyL r from rfl]
    cases i with
    | zero => rw [List.getElem?_append_left (by rw [packL_len]; omega)]; simp
    | succ i =>
      rw [List.getElem?_append_right (by rw [packL_len]; omega), packL_len, show 3 * (i + 1) + j - 3 = 3 * i + j by omega, ih i (by simpa using hi)]
      rfl
theorem ascB_yes {L : List En} (h : ∀ i, 0 < i → i < L.length → L[i - 1]!.1 < L[i]!.1) : ascB L = true := by
  unfold ascB
  rw [List.all_eq_true]
  intro i hi
  have hi := List.mem_range.1 hi
  by_cases h0 : i = 0
  · simp [h0]
  · rw [decide_eq_true (h i (by omega) hi), Bool.or_true]
theorem ascB_no {L : List En} {i : Nat} (h0 : 0 < i) (hi : i < L.length) (h : ¬ L[i - 1]!.1 < L[i]!.1) : ascB L = false := by
  unfold ascB
  rw [List.all_eq_false]
  exact ⟨i, List.mem_range.2 hi, by rw [decide_eq_false h, decide_eq_false (by omega)]; decide⟩
theorem ascB_at {L : List En} (h : ascB L = true) {i : Nat} (h0 : 0 < i) (hi : i < L.length) : L[i - 1]!.1 < L[i]!.1 := by
  rcases Int.lt_or_le (L[i - 1]!.1) (L[i]!.1) with h' | h'
  · exact h'
  · rw [ascB_no h0 hi (by omega)] at h; cases h
theorem ascB_lt {L : List En} (h : ascB L = true) {i j : Nat} (hij : i < j) (hj : j < L.length) : L[i]!.1 < L[j]!.1 := by
  induction j with
  | zero => omega
  | succ j ih =>
    have h1 := ascB_at h (i := j + 1) (by omega) hj
    rw [Nat.add_sub_cancel] at h1
    by_cases e : i = j
    · subst e; exact h1
    · have := ih (by omega) (by omega); omega
theorem mayL_yes {T C B : Int} {L : List En} (h : ∀ i, i < L.length → mayI T C B L[i]!.1 = true) : mayL T C B L = true := by
  unfold mayL
  rw [List.all_eq_true]
  intro x hx
  obtain ⟨k, hk, rfl⟩ := at_mem hx
  exact h k hk
theorem mayL_no {T C B : Int} {L : List En} {i : Nat} (hi : i < L.length) (h : mayI T C B L[i]!.1 = false) : mayL T C B L = false := by
  unfold mayL
  rw [List.all_eq_false]
  exact ⟨_, mem_at hi, by rw [h]; decide⟩
theorem mayL_at {T C B : Int} {L : List En} (h : mayL T C B L = true) {i : Nat} (hi : i < L.length) : mayI T C B L[i]!.1 = true := by
  unfold mayL at h
  exact List.all_eq_true.1 h _ (mem_at hi)
/-- Where descriptors lie in a valid layout. -/
theorem place_ok {T C B : Nat} (h : Ok T C B) (who : Int) : placeI T C B who = if 1 ≤ who ∧ who ≤ T then ((startL T C B 4 : Int) + 104 * (who - 1), 32) else if 9 ≤ who ∧ who < 9 + B then ((startL T C B 6 : Int) + 32 * (who - 9), 10) else (-1, 0) := by
  have h8 := h.1.2.1
  unfold placeI placeAt
  by_cases h1 : 8 < who
  · rw [if_pos h1, unitI_ok h, if_pos h1]
    have hu : unitsL T C B 6 = B := by simp [unitsL]
    have hz : (unitZ 6 : Int) = 32 := by simp [unitZ]
    rw [hu, hz]
    by_cases h2 : who < 9 + B
    · rw [if_pos (show 0 ≤ who - 9 ∧ who - 9 < (B : Int) by omega), if_neg (by omega), if_neg (by omega), if_pos (by omega)]
      congr 1; omega
    · rw [if_neg (show ¬ (0 ≤ who - 9 ∧ who - 9 < (B : Int)) by omega), if_pos (by omega), if_neg (by omega), if_neg (by omega)]
  · rw [if_neg h1, if_neg h1]
    unfold threadI
    by_cases h2 : who < 1
    · rw [if_pos h2, if_pos (by omega), if_neg (by omega), if_neg (by omega)]
    · rw [if_neg h2, unitI_ok h]
      have hu : unitsL T C B 4 = T := by simp [unitsL]
      have hz : (unitZ 4 : Int) = 104 := by simp [unitZ]
      rw [hu, hz]
      by_cases h3 : who ≤ T
      · rw [if_pos (show 0 ≤ who - 1 ∧ who - 1 < (T : Int) by omega), if_neg (by omega), if_pos (by omega)]
        congr 1; omega
      · rw [if_neg (show ¬ (0 ≤ who - 1 ∧ who - 1 < (T : Int)) by omega), if_pos (by omega), if_neg (by omega), if_neg (by omega)]
/-- An owner has a place with room for its words, or none. -/
theorem place_room {T C B : Nat} (h : Ok T C B) (who : Int) : placeI T C B who = (-1, 0) ∨ ∃ a m : Nat, placeI T C B who = ((a : Int), (m : Int)) ∧ (m = 32 ∨ m = 10) ∧ a + 2 + 3 * m ≤ startL T C B 7 ∧ startL T C B 4 ≤ a := by
  have hs := starts T C B
  rw [place_ok h]
  by_cases h1 : 1 ≤ who ∧ who ≤ T
  · rw [if_pos h1]
    refine .inr ⟨startL T C B 4 + 104 * (who - 1).toNat, 32, ?_, .inl rfl, by omega, by omega⟩
    congr 1; omega
  · rw [if_neg h1]
    by_cases h2 : 9 ≤ who ∧ who < 9 + B
    · rw [if_pos h2]
      refine .inr ⟨startL T C B 6 + 32 * (who - 9).toNat, 10, ?_, .inr rfl, by omega, by omega⟩
      congr 1; omega
    · rw [if_neg h2]; exact .inl rfl
theorem may_range {T C B : Nat} (h : Ok T C B) {x : Int} (hx : mayI T C B x = true) : 0 ≤ x ∧ x < startL T C B 4 := by
  have hs := starts T C B
  rw [mayI_ok h] at hx
  split at hx
  · have := of_decide_eq_true hx; omega
  · rw [Bool.and_eq_true] at hx
    have h1 := of_decide_eq_true hx.1
    omega
theorem may_size {T C B : Nat} (h : Ok T C B) {x : Int} (hx : mayI T C B x = true) : 0 ≤ x ∧ x < startL T C B 7 := by
  have hs := starts T C B
  have := may_range h hx
  omega
/-- The entries that a list of words holds behind its first two. -/
def entA (M : List Wd) (k : Nat) : En := entW M[2 + 3 * k]! M[2 + 3 * k + 1]! M[2 + 3 * k + 2]!
def isA (M : List Wd) (k : Nat) : Bool := isEnt M[2 + 3 * k]! M[2 + 3 * k + 1]! M[2 + 3 * k + 2]!
def entsA (M : List Wd) (n : Nat) : List En := (List.range n).map (entA M)
def allA (M : List Wd) (n : Nat) : Bool := (List.range n).all (isA M)
def descA (M : List Wd) (who : Int) : Ds := (who, M[0]!.2.1, M[0]!.1, entsA M M[1]!.1.toNat)
theorem entsA_len (M : List Wd) (n : Nat) : (entsA M n).length = n := by simp [entsA]
theorem entsA_succ (M : List Wd) (n : Nat) : entsA M (n + 1) = entsA M n ++ [entA M n] := by simp [entsA, List.range_succ]
theorem entsA_at (M : List Wd) {n i : Nat} (h : i < n) : (entsA M n)[i]! = entA M i := by
  rw [getElem!_pos _ i (by rw [entsA_len]; exact h)]; simp [entsA]
theorem allA_yes {M : List Wd} {n : Nat} (h : ∀ i, i < n → isA M i = true) : allA M n = true := by
  unfold allA
  rw [List.all_eq_true]
  exact fun i hi => h i (List.mem_range.1 hi)
theorem allA_no {M : List Wd} {n i : Nat} (hi : i < n) (h : isA M i = false) : allA M n = false := by
  unfold allA
  rw [List.all_eq_false]
  exact ⟨i, List.mem_range.2 hi, by rw [h]; decide⟩
/-- What decode answers: the descriptor, or that there is none. -/
def decB (M : List Wd) (most : Int) : Bool := decide (1 ≤ M[1]!.1 ∧ M[1]!.1 ≤ most) && allA M M[1]!.1.toNat
/-- The words M begin with a fitting descriptor of the owner. -/
def rdB (T C B : Int) (M : List Wd) (who : Int) : Bool :=
  decB M (placeI T C B who).2 && (decide (chkD T C B (descA M who) = 0) && decide (wordsD (descA M who) = M.take (wordsD (descA M who)).length))
def zD : Ds := (0, 0, 0, [])
/-- What Read answers. -/
def rdE (T C B : Int) (W : List Wd) (who : Int) : Int :=
  if checkI T C B ≠ 0 ∨ (W.length : Int) < sizeI T C B then 1 else if (placeI T C B who).1 < 0 then 3 else if rdB T C B (W.drop (placeI T C B who).1.toNat) who = true then 0 else 5
def rdD (T C B : Int) (W : List Wd) (who : Int) : Ds := if rdE T C B W who = 0 then descA (W.drop (placeI T C B who).1.toNat) who else zD
/-- Owner and sequence number of a reference. -/
def whoI (r : Int) : Int × Int := if 1 ≤ r / 16777216 ∧ r / 16777216 ≤ 72 ∧ 1 ≤ r % 16777216 then (r / 16777216, r % 16777216) else (0, 0)
def hitE (at_ : Int) (e : En) : Bool := decide (e.1 = at_) && e.2.2.2
/-- What Logical answers. -/
def logE (T C B : Int) (W : List Wd) (x : Int) : Int :=
  if checkI T C B ≠ 0 ∨ (W.length : Int) < sizeI T C B then 1 else if mayI T C B x = false then 10 else 0
def ownB (T C B : Int) (W : List Wd) (s : Wd) : Bool :=
  decide (rdE T C B W (whoI s.2.2).1 = 0) && (decide ((rdD T C B W (whoI s.2.2).1).2.1 = (whoI s.2.2).2) && decide ((rdD T C B W (whoI s.2.2).1).2.2.1 = 1))
def logL (T C B : Int) (W : List Wd) (x : Int) (s : Wd) : Wd :=
  if ownB T C B W s = true then
    match (rdD T C B W (whoI s.2.2).1).2.2.2.find? (hitE x) with
    | some e => (e.2.2.1, IntKind.u32.wrap (s.2.1 + 1), 0)
    | none => (s.1, s.2.1, 0)
  else (s.1, s.2.1, 0)
def logW (T C B : Int) (W : List Wd) (x : Int) : Wd := if logE T C B W x ≠ 0 then (0, 0, 0) else logL T C B W x W[x.toNat]!
theorem isEnt_packed {e : En} (h : e.2.1.2.2 = 0) (h0 : 0 ≤ e.1 ∧ e.1 < 4096) : isEnt (pw0 e) (pw1 e) (pw2 e) = true ∧ entW (pw0 e) (pw1 e) (pw2 e) = e := by
  obtain ⟨a, ⟨b, c, r⟩, z, u⟩ := e
  simp only at h h0
  subst h
  have e1 : entW (pw0 (a, (b, c, 0), z, u)) (pw1 (a, (b, c, 0), z, u)) (pw2 (a, (b, c, 0), z, u)) = (a, (b, c, 0), z, u) := by
    unfold entW pw0 pw1 pw2
    cases u <;> simp
  refine ⟨?_, e1⟩
  unfold isEnt
  rw [e1]
  simp [pw0, h0]
end Go.Proofs.YtfegeahieajmkaaDoor
