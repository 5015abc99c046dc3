/- The reference's Place and May over a plan. -/
import Derived.Test.YtfegeahieajmkaaDoorDsPlan
import Derived.Deep.DeepCutAuto
namespace Go.Proofs.YtfegeahieajmkaaDoor
open Go.ChangeShapes Go.WideShapes Go.ChangeAt Go.RowKit Go.Maps
open Lay (startL checkI placeI mayI sizeI Ok starts checkI_ok)
theorem rooms_ok {T C B : Nat} (h : 0 < B) : roomsI T C B = startL T C B 6 := by unfold roomsI; rw [if_pos h]
set_option maxRecDepth 100000 in
set_option maxHeartbeats 3200000 in
theorem rplace_any (T C B : Nat) (u : Value) (x : Int) (w : World) (hok : Ok T C B) (hu : SK blE w u (mayBs T C B (startL T C B 7))) (hx : -9223372036854775808 ≤ x ∧ x < 9223372036854775808) : Calls Tryd.prog 14 #[PlV T C B u, .int .i64 x] w fun e w' => e = .returned (.tuple #[.int .i64 (placeI T C B x).1, .int .i64 (placeI T C B x).2]) ∧ Below w.heap.size w w' := by
  have PO := Lib.hid (place_ok hok x)
  have RM := Lib.hid (rooms_ok (T := T) (C := C) (B := B))
  have h8 := hok.1.2.1
  have h64 := hok.1.2.2.2.2
  have s5 := Lay.startL_le T C B hok.1 4 (by omega)
  have s6 := Lay.startL_le T C B hok.1 6 (by omega)
  obtain ⟨ua, uc, rfl, _⟩ := hu.form
  rw [mayBs_len]
  unfold PlV
  obtain ⟨n, hn⟩ : ∃ n, startL T C B 7 = n := ⟨_, rfl⟩
  obtain ⟨s4, hs4⟩ : ∃ n, startL T C B 4 = n := ⟨_, rfl⟩
  obtain ⟨z6, hz6⟩ : ∃ n, startL T C B 6 = n := ⟨_, rfl⟩
  obtain ⟨rm, hrm⟩ : ∃ n, roomsI T C B = n := ⟨_, rfl⟩
  rw [hn, hs4, hrm]
  rw [hs4, hz6] at PO
  rw [hrm, hz6] at RM
  rw [hs4] at s5
  rw [hz6] at s6
  obtain ⟨p, hp⟩ : ∃ p, placeI T C B x = p := ⟨_, rfl⟩
  rw [hp] at PO ⊢
  clear hn hs4 hrm hz6 hp hu hok
  have BB := Lib.hid (below1 w (.cells #[.int .i64 T, .int .i64 B, .int .i64 s4, .int .i64 rm, .int .i64 104, .int .i64 32, .slice ua n uc, .int .i64 n] 32))
  by_cases h1 : 1 ≤ x
  · by_cases h2 : x ≤ T
    · have e := PO.out
      rw [if_pos ⟨h1, h2⟩] at e
      subst e
      have q1 : IntKind.i64.wrap (x - 1) = x - 1 := IntWalk.i64_in _ (by omega)
      have q2 : IntKind.i64.wrap ((x - 1) * 104) = (x - 1) * 104 := IntWalk.i64_in _ (by omega)
      have q3 : IntKind.i64.wrap ((s4 : Int) + (x - 1) * 104) = (s4 : Int) + (x - 1) * 104 := IntWalk.i64_in _ (by omega)
      have q4 : (s4 : Int) + (x - 1) * 104 = (s4 : Int) + 104 * (x - 1) := by omega
      go_enter Tryd.func14, Tryd.ntmps14
      go_wp2_with fail
      go_ret2
      exact ⟨by rw [← q4]; rfl, BB.out⟩
    · have e := PO.out
      rw [if_neg (fun h => h2 h.2)] at e
      by_cases h3 : 9 ≤ x
      · have q5 : IntKind.i64.wrap (9 + (B : Int)) = 9 + (B : Int) := IntWalk.i64_in _ (by omega)
        by_cases h4 : x < 9 + B
        · rw [if_pos ⟨h3, h4⟩] at e
          have e2 := RM.out (by omega)
          subst e e2
          have q1 : IntKind.i64.wrap (x - 9) = x - 9 := IntWalk.i64_in _ (by omega)
          have q2 : IntKind.i64.wrap ((x - 9) * 32) = (x - 9) * 32 := IntWalk.i64_in _ (by omega)
          have q3 : IntKind.i64.wrap ((rm : Int) + (x - 9) * 32) = (rm : Int) + (x - 9) * 32 := IntWalk.i64_in _ (by omega)
          have q4 : (rm : Int) + (x - 9) * 32 = (rm : Int) + 32 * (x - 9) := by omega
          go_enter Tryd.func14, Tryd.ntmps14
          go_wp2_with fail
          go_ret2
          exact ⟨by rw [← q4]; rfl, BB.out⟩
        · rw [if_neg (fun h => h4 h.2)] at e
          subst e
          go_enter Tryd.func14, Tryd.ntmps14
          go_wp2_with fail
          go_ret2
          exact ⟨rfl, BB.out⟩
      · rw [if_neg (fun h => h3 h.1)] at e
        subst e
        go_enter Tryd.func14, Tryd.ntmps14
        go_wp2_with fail
        go_ret2
        exact ⟨rfl, BB.out⟩
  · have e := PO.out
    have h3 : ¬ 9 ≤ x := by omega
    rw [if_neg (fun h => h1 h.1), if_neg (fun h => h3 h.1)] at e
    subst e
    go_enter Tryd.func14, Tryd.ntmps14
    go_wp2_with fail
    go_ret2
    exact ⟨rfl, BB.out⟩
set_option maxRecDepth 100000 in
set_option maxHeartbeats 3200000 in
theorem rmay_any (T C B : Nat) (u : Value) (x : Int) (w : World) (hok : Ok T C B) (hu : SK blE w u (mayBs T C B (startL T C B 7))) : Calls Tryd.prog 16 #[PlV T C B u, .int .i64 x] w fun e w' => e = .returned (.bool (mayI T C B x)) ∧ Below w.heap.size w w' := by
  have N7 := Lay.startL_le T C B hok.1 7 (by omega)
  have MS := Lib.hid (fun h => may_size hok (x := x) h)
  have MA := Lib.hid (fun (i : Nat) h => mayBs_at T C B (n := startL T C B 7) (i := i) h)
  have HU := Lib.hid hu
  obtain ⟨ua, uc, rfl, _⟩ := hu.form
  rw [mayBs_len] at HU ⊢
  unfold PlV
  obtain ⟨n, hn⟩ : ∃ n, startL T C B 7 = n := ⟨_, rfl⟩
  obtain ⟨s4, hs4⟩ : ∃ n, startL T C B 4 = n := ⟨_, rfl⟩
  obtain ⟨rm, hrm⟩ : ∃ n, roomsI T C B = n := ⟨_, rfl⟩
  rw [hn] at HU MA MS N7 ⊢
  rw [hs4, hrm]
  clear hn hs4 hrm hu hok
  have BB := Lib.hid (below1 w (.cells #[.int .i64 T, .int .i64 B, .int .i64 s4, .int .i64 rm, .int .i64 104, .int .i64 32, .slice ua n uc, .int .i64 n] 32))
  obtain ⟨m, hm⟩ : ∃ m, mayI T C B x = m := ⟨_, rfl⟩
  rw [hm]
  have HM := Lib.hid hm
  rw [hm] at MS
  clear hm
  by_cases h1 : 0 ≤ x
  · by_cases h2 : x < n
    · obtain ⟨k, rfl⟩ : ∃ k : Nat, x = k := ⟨x.toNat, by omega⟩
      have hk : k < n := by omega
      have e := MA.out k hk
      rw [HM.out] at e
      obtain ⟨b, off, rfl, hbl, hln, hc⟩ := HU.out.addr hk
      have c0 : w.cell? ⟨b, off + k * 1 + 0, none⟩ = some (.bool m) := hc k (by rw [hln]; exact hk) 0 _ (by rw [e]; rfl)
      rw [Nat.mul_one, Nat.add_zero, ← BB.out.cell (p := ⟨b, off + k, none⟩) hbl] at c0
      clear hc hln e
      go_enter Tryd.func16, Tryd.ntmps16
      go_wp2_with fail
      go_ret
      exact ⟨rfl, BB.out⟩
    · have e : m = false := by
        cases m with
        | false => rfl
        | true => have := MS.out rfl; omega
      subst e
      go_enter Tryd.func16, Tryd.ntmps16
      go_wp2_with fail
      go_ret
      exact ⟨rfl, BB.out⟩
  · have e : m = false := by
      cases m with
      | false => rfl
      | true => have := MS.out rfl; omega
    subst e
    go_enter Tryd.func16, Tryd.ntmps16
    go_wp2_with fail
    go_ret
    exact ⟨rfl, BB.out⟩
end Go.Proofs.YtfegeahieajmkaaDoor
