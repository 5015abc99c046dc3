/- strconv.ParseInt and ParseUint at every string, in one form each. -/
import Derived.Test.YthcafhdokbejkaaDoorMarks
namespace Go.Proofs.YthcafhdokbejkaaDoor
open Go.RowKit Go.Shelf

def IsE (v : Value) : Prop := v = .nilIface ∨ ∃ t p, v = .iface t p
/-- The library's two error variables are there. -/
def Sen (W : World) : Prop := 2 < W.heap.size ∧ (∃ e, W.cell? ⟨1, 0, none⟩ = some e ∧ IsE e) ∧ ∃ e, W.cell? ⟨2, 0, none⟩ = some e ∧ IsE e
theorem Sen.below {W W' : World} (h : Sen W) (hb : Below W.heap.size W W') : Sen W' := by
  obtain ⟨h1, ⟨e, h2, h3⟩, e', h4, h5⟩ := h
  exact ⟨Nat.lt_of_lt_of_le h1 hb.size, ⟨e, (hb.cell (p := ⟨1, 0, none⟩) (by simp; omega)).trans h2, h3⟩, e', (hb.cell (p := ⟨2, 0, none⟩) (by simp; omega)).trans h4, h5⟩

theorem below_bytes (w : World) (t : TypeId) (s : ByteArray) : Below w.heap.size w (Lib.bytesWorld w t s) := by
  exact Lib.bytesWorld_below _ _ _

/-- How a parse of a number ends: the number and nil; or an error. -/
def Num (ok : Option Int) (mk : Int → Value) (lo hi : Int) (w : World) (e : Ending) (w' : World) : Prop :=
  (∃ v ev, e = .returned (.tuple #[mk v, ev]) ∧ (lo ≤ v ∧ v ≤ hi) ∧ ((ev = .nilIface ∧ ok = some v) ∨ ((∃ t p, ev = .iface t p) ∧ ok = none))) ∧ Below w.heap.size w w'

def okOf {α : Type} : Lib.NumEnd α → Option α
  | .ok v => some v
  | _ => none

theorem intB_ok {B : Nat} {l : List UInt8} {v : Int} (h : Lib.parseIntB B l = .ok v) : -((2 ^ (B - 1) : Nat) : Int) ≤ v ∧ v ≤ ((2 ^ (B - 1) : Nat) : Int) - 1 := by
  unfold Lib.parseIntB at h
  have hp : 1 ≤ 2 ^ (B - 1) := Nat.one_le_two_pow
  generalize 2 ^ (B - 1) = P at h hp ⊢
  split at h
  · cases h
  · simp only at h
    split at h
    · cases h
    · cases h
    · split at h
      · cases h
      · split at h
        · cases h
        · rename_i h1 h2
          simp only [Lib.NumEnd.ok.injEq] at h
          subst h
          split
          · rename_i hn; simp only [hn, true_and] at h2; omega
          · rename_i hn; simp only [hn, not_false_iff, true_and] at h1; omega
theorem intSat_bd (B : Nat) (l : List UInt8) (hB : 1 ≤ 2 ^ (B - 1)) : -((2 ^ (B - 1) : Nat) : Int) ≤ Lib.intSat B l ∧ Lib.intSat B l ≤ ((2 ^ (B - 1) : Nat) : Int) - 1 := by
  unfold Lib.intSat
  generalize 2 ^ (B - 1) = P at hB ⊢
  split <;> omega
theorem uintM_le {M : Nat} : ∀ (l : List UInt8) (acc u : Nat), acc ≤ M → Lib.parseUintM M acc l = .ok u → u ≤ M
  | [], acc, u, ha, h => by
    simp only [Lib.parseUintM, Lib.NumEnd.ok.injEq] at h
    omega
  | c :: r, acc, u, ha, h => by
    unfold Lib.parseUintM at h
    split at h
    · split at h
      · cases h
      · split at h
        · cases h
        · exact uintM_le r _ u (by omega) h
    · cases h

theorem pint64 (s : ByteArray) (w : World) (hs : s.size ≤ 281474976710656) (hw : Sen w) :
    Calls Tryd.prog 31 #[.string s, .int .i64 10, .int .i64 64] w (Num (okOf (Lib.parseIntB 64 s.data.toList)) (.int .i64) (-9223372036854775808) 9223372036854775807 w) := by
  obtain ⟨h1, ⟨e1, h2, h3⟩, e2, h4, h5⟩ := hw
  cases h : Lib.parseIntB 64 s.data.toList
  · rename_i v
    refine (Any.strconv_ParseInt_10_at64_ok Tryd.laysC174 s (by omega) v h w).mono ?_
    rintro e w' ⟨rfl, hw'⟩
    refine ⟨⟨v, _, rfl, by have := intB_ok h; simp at this; omega, .inl ⟨rfl, rfl⟩⟩, ?_⟩
    rcases hw' with rfl | ⟨t, rfl⟩
    · exact Below.refl _ _
    · exact below_bytes _ _ _
  · skip
    refine (Any.strconv_ParseInt_10_at64_syntax Tryd.laysC174 s hs h e1 w h2 h3).mono ?_
    rintro e w' ⟨N, rfl, -, -, hb⟩
    exact ⟨⟨0, _, rfl, by omega, .inr ⟨⟨_, _, rfl⟩, rfl⟩⟩, hb⟩
  · skip
    refine (Any.strconv_ParseInt_10_at64_range Tryd.laysC174 s hs h e2 w h4 h5).mono ?_
    rintro e w' ⟨N, rfl, -, -, hb⟩
    exact ⟨⟨_, _, rfl, by have := intSat_bd 64 s.data.toList (by decide); simp at this; omega, .inr ⟨⟨_, _, rfl⟩, rfl⟩⟩, hb⟩

theorem pint32 (s : ByteArray) (w : World) (hs : s.size ≤ 281474976710656) (hw : Sen w) :
    Calls Tryd.prog 31 #[.string s, .int .i64 10, .int .i64 32] w (Num (okOf (Lib.parseIntB 32 s.data.toList)) (.int .i64) (-2147483648) 2147483647 w) := by
  obtain ⟨h1, ⟨e1, h2, h3⟩, e2, h4, h5⟩ := hw
  cases h : Lib.parseIntB 32 s.data.toList
  · rename_i v
    refine (Any.strconv_ParseInt_10_at32_ok Tryd.laysC174 s (by omega) v h w).mono ?_
    rintro e w' ⟨rfl, hw'⟩
    refine ⟨⟨v, _, rfl, by have := intB_ok h; simp at this; omega, .inl ⟨rfl, rfl⟩⟩, ?_⟩
    rcases hw' with rfl | ⟨t, rfl⟩
    · exact Below.refl _ _
    · exact below_bytes _ _ _
  · skip
    refine (Any.strconv_ParseInt_10_at32_syntax Tryd.laysC174 s hs h e1 w h2 h3).mono ?_
    rintro e w' ⟨N, rfl, -, -, hb⟩
    exact ⟨⟨0, _, rfl, by omega, .inr ⟨⟨_, _, rfl⟩, rfl⟩⟩, hb⟩
  · skip
    refine (Any.strconv_ParseInt_10_at32_range Tryd.laysC174 s hs h e2 w h4 h5).mono ?_
    rintro e w' ⟨N, rfl, -, -, hb⟩
    exact ⟨⟨_, _, rfl, by have := intSat_bd 32 s.data.toList (by decide); simp at this; omega, .inr ⟨⟨_, _, rfl⟩, rfl⟩⟩, hb⟩

def natOf : Option Nat → Option Int
  | some n => some n
  | none => none
theorem puint32 (s : ByteArray) (w : World) (hs : s.size ≤ 281474976710656) (hw : Sen w) :
    Calls Tryd.prog 33 #[.string s, .int .i64 10, .int .i64 32] w (Num (natOf (okOf (Lib.parseUintB 32 s.data.toList))) (.int .u64) 0 4294967295 w) := by
  obtain ⟨h1, ⟨e1, h2, h3⟩, e2, h4, h5⟩ := hw
  cases h : Lib.parseUintB 32 s.data.toList
  · rename_i u
    refine (Any.strconv_ParseUint_10_at32_ok Tryd.laysPu14 s (by omega) u h w).mono ?_
    rintro e w' ⟨rfl, hw'⟩
    have hu : u ≤ 4294967295 := by
      unfold Lib.parseUintB at h
      split at h
      · cases h
      · exact uintM_le _ 0 u (by omega) h
    refine ⟨⟨u, _, rfl, by omega, .inl ⟨rfl, rfl⟩⟩, ?_⟩
    rcases hw' with rfl | rfl
    · exact Below.refl _ _
    · exact below_bytes _ _ _
  · skip
    refine (Any.strconv_ParseUint_10_at32_syntax Tryd.laysPu14 s hs h e1 w h2 h3).mono ?_
    rintro e w' ⟨N, rfl, -, -, hb⟩
    exact ⟨⟨0, _, rfl, by omega, .inr ⟨⟨_, _, rfl⟩, rfl⟩⟩, hb⟩
  · skip
    refine (Any.strconv_ParseUint_10_at32_range Tryd.laysPu14 s hs h e2 w h4 h5).mono ?_
    rintro e w' ⟨N, rfl, -, -, hb⟩
    exact ⟨⟨4294967295, _, rfl, by omega, .inr ⟨⟨_, _, rfl⟩, rfl⟩⟩, hb⟩
end Go.Proofs.YthcafhdokbejkaaDoor
