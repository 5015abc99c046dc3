/- Lists of strings; allCanonical and value of package sched. -/
import Derived.Test.YtpgcnejofnhhfaaDoorCanon
namespace Go.Proofs.YtpgcnejofnhhfaaDoor
open Go.ChangeShapes Go.WideShapes Go.ChangeAt Go.RowKit

def eB : ByteArray := ⟨#[]⟩
/-- The slice v of strings reads as l. -/
def SS (w : World) (v : Value) (l : List ByteArray) : Prop :=
  ∃ a cap, v = .slice a l.length cap ∧ (l = [] ∨ ∃ b off, a = some ⟨b, off, none⟩ ∧ b < w.heap.size ∧ ∀ i, i < l.length → w.cell? ⟨b, off + i, none⟩ = some (.string (l.getD i eB)))
theorem SS.below {w w1 : World} {v : Value} {L : List ByteArray} (h : SS w v L) (hb : Below w.heap.size w w1) : SS w1 v L := by
  obtain ⟨a, cap, hv, h | ⟨b, off, ha, hl, hc⟩⟩ := h
  · exact ⟨a, cap, hv, .inl h⟩
  · exact ⟨a, cap, hv, .inr ⟨b, off, ha, Nat.lt_of_lt_of_le hl hb.size, fun i hi => (hb.cell hl).trans (hc i hi)⟩⟩
def allCan (l : List ByteArray) : Bool := l.all fun s => canL s.data.toList
theorem allCan_succ (L : List ByteArray) {k : Nat} (h : k < L.length) : allCan (L.take (k + 1)) = (allCan (L.take k) && canL (L.getD k eB).data.toList) := by
  unfold allCan
  rw [List.getD, List.getElem?_eq_getElem h, List.take_succ_eq_append_getElem h, List.all_append]; simp
theorem allCan_false (L : List ByteArray) {k : Nat} (h : k < L.length) (hd : canL (L.getD k eB).data.toList = false) : allCan L = false := by
  rw [Bool.eq_false_iff]
  intro ha
  have := List.all_eq_true.1 ha _ (List.getElem_mem h)
  rw [List.getD, List.getElem?_eq_getElem h] at hd
  simp only [Option.getD_some] at hd
  rw [hd] at this; cases this
theorem small_at {L : List ByteArray} (hs : ∀ s ∈ L, s.size ≤ 100000) {k : Nat} (h : k < L.length) : (L.getD k eB).size ≤ 100000 := by
  rw [List.getD, List.getElem?_eq_getElem h]; exact hs _ (List.getElem_mem h)

set_option maxRecDepth 100000 in
set_option maxHeartbeats 1600000 in
theorem allCan_any (v : Value) (L : List ByteArray) (w : World) (hl : L.length ≤ 100000) (hs : ∀ s ∈ L, s.size ≤ 100000) (h : SS w v L) :
    Calls Tryd.prog 39 #[v] w fun e w' => e = .returned (.bool (allCan L)) ∧ w = w' := by
  obtain ⟨a, cap, rfl, h⟩ := h
  have H := Lib.hid h
  have HZ := Lib.hid hs
  clear h hs
  obtain ⟨n, hn⟩ : ∃ n, L.length = n := ⟨_, rfl⟩
  rw [hn]
  rw [hn] at hl
  go_enter Tryd.func39, Tryd.ntmps39
  go_wp2_with fail
  go_loop [7] (fun i => ∃ k : Nat, k ≤ n ∧ i = .int .i64 k ∧ allCan (L.take k) = true) (fun i => n - (intOf i).toNat)
  case atStart => exact ⟨0, by omega, rfl, by simp [allCan]⟩
  case round =>
    obtain ⟨k, hk, rfl, ha⟩ := hrel
    have HA := Lib.hid ha
    clear ha
    by_cases hlt : k < n
    · rcases H.out with h | ⟨b, off, rfl, hbl, hc⟩
      · subst h; simp at hn; omega
      have c0 := hc k (by omega)
      have HS := Lib.hid (allCan_succ L (k := k) (by omega))
      have HF := Lib.hid (allCan_false L (k := k) (by omega))
      have HC := Lib.hid (canon_any (L.getD k eB) w (small_at HZ.out (by omega)))
      clear hc
      generalize (L.getD k eB) = s at *
      go_wp2_with fail
      refine HC.out.mono ?_
      rintro e w' ⟨rfl, rfl⟩
      cases he : canL s.data.toList with
      | true =>
        rw [he] at HS
        clear HF HC
        go_wp2_with fail
        go_round
        case rel => exact ⟨k + 1, by omega, by go_num, by rw [HS.out, HA.out]; rfl⟩
        case measure => simp [intOf]; omega
      | false =>
        clear HS HC
        go_wp2_with fail
        go_ret
        refine ⟨?_, rfl⟩
        rw [HF.out he]; rfl
    · go_wp2_with fail
      go_ret
      refine ⟨?_, rfl⟩
      rw [← List.take_length (l := L), hn, show n = k by omega, HA.out]; rfl

/-- What value answers: the number that s spells, if it is one of 32 bits. -/
def ValPost (s : ByteArray) (w : World) (e : Ending) (w' : World) : Prop :=
  ((∃ v, Lib.parseIntB 32 s.data.toList = .ok v ∧ e = .returned (.tuple #[.int .i64 v, .bool true])) ∨ ((∀ v, Lib.parseIntB 32 s.data.toList ≠ .ok v) ∧ ∃ x, e = .returned (.tuple #[.int .i64 x, .bool false]))) ∧ Below w.heap.size w w'
set_option maxRecDepth 100000 in
set_option maxHeartbeats 1600000 in
theorem value_any (s : ByteArray) (w : World) (hs : s.size ≤ 100000) (hg : Gl w) : Calls Tryd.prog 41 #[.string s] w (ValPost s w) := by
  cases hp : Lib.parseIntB 32 s.data.toList
  · rename_i v
    have HP := Lib.hid (Any.strconv_ParseInt_10_at32_ok Tryd.laysC174 s (by omega) v hp w)
    have HH := Lib.hid hp
    have HP : Hid (Calls Tryd.prog 49 #[.string s, .int .i64 10, .int .i64 32] w fun e w' => e = .returned (.tuple #[.int .i64 v, .nilIface]) ∧ Below w.heap.size w w') := Lib.hid (HP.out.mono (by
      rintro e w' ⟨rfl, rfl | ⟨t, rfl⟩⟩
      · exact ⟨rfl, Below.refl _ _⟩
      · exact ⟨rfl, Lib.bytesWorld_below _ _ _⟩))
    clear hp hg
    go_enter Tryd.func41, Tryd.ntmps41
    go_wp2_with fail
    refine HP.out.mono ?_
    rintro e w' ⟨rfl, hb⟩
    have BB := Lib.hid hb
    clear hb HP
    go_wp2_with fail
    go_quiet (fail)
    go_wp2_with fail
    go_ret2
    exact ⟨.inl ⟨v, HH.out, rfl⟩, below_drewN BB.out _⟩
  · obtain ⟨ev, hv, hev⟩ := hg.es
    have HP := Lib.hid (Any.strconv_ParseInt_10_at32_syntax Tryd.laysC174 s (by omega) hp ev w hv hev)
    have HH : Hid (∀ v, Lib.parseIntB 32 s.data.toList ≠ .ok v) := Lib.hid (fun v h => by rw [hp] at h; cases h)
    have HP : Hid (Calls Tryd.prog 49 #[.string s, .int .i64 10, .int .i64 32] w fun e w' => ∃ N x, e = .returned (.tuple #[.int .i64 x, .iface (Tryd.laysC174_ren.t 168) (.pointer (some ⟨N, 0, none⟩))]) ∧ Below w.heap.size w w') := Lib.hid (HP.out.mono (by
      rintro e w' ⟨N, he, -, -, hb⟩
      exact ⟨N, _, he, hb⟩))
    clear hp hg hv hev
    go_enter Tryd.func41, Tryd.ntmps41
    go_wp2_with fail
    refine HP.out.mono ?_
    rintro e w' ⟨N, x, rfl, hb⟩
    have BB := Lib.hid hb
    clear hb HP
    go_wp2_with fail
    go_quiet (fail)
    go_wp2_with fail
    go_ret2
    exact ⟨.inr ⟨HH.out, x, rfl⟩, below_drewN BB.out _⟩
  · obtain ⟨ev, hv, hev⟩ := hg.er
    have HP := Lib.hid (Any.strconv_ParseInt_10_at32_range Tryd.laysC174 s (by omega) hp ev w hv hev)
    have HH : Hid (∀ v, Lib.parseIntB 32 s.data.toList ≠ .ok v) := Lib.hid (fun v h => by rw [hp] at h; cases h)
    have HP : Hid (Calls Tryd.prog 49 #[.string s, .int .i64 10, .int .i64 32] w fun e w' => ∃ N x, e = .returned (.tuple #[.int .i64 x, .iface (Tryd.laysC174_ren.t 168) (.pointer (some ⟨N, 0, none⟩))]) ∧ Below w.heap.size w w') := Lib.hid (HP.out.mono (by
      rintro e w' ⟨N, he, -, -, hb⟩
      exact ⟨N, _, he, hb⟩))
    clear hp hg hv hev
    go_enter Tryd.func41, Tryd.ntmps41
    go_wp2_with fail
    refine HP.out.mono ?_
    rintro e w' ⟨N, x, rfl, hb⟩
    have BB := Lib.hid hb
    clear hb HP
    go_wp2_with fail
    go_quiet (fail)
    go_wp2_with fail
    go_ret2
    exact ⟨.inr ⟨HH.out, x, rfl⟩, below_drewN BB.out _⟩
end Go.Proofs.YtpgcnejofnhhfaaDoor
