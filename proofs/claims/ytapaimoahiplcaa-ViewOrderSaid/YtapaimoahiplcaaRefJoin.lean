/- The reference's Join; great. -/
import Derived.Test.YtapaimoahiplcaaIs
import Derived.Test.YtapaimoahiplcaaRefBelow
namespace Go.Proofs.Ytapaimoahiplcaa
open Go.RowKit Go.Shelf Go.Maps

theorem joinL_take (a b : List (Int × Int)) (k : Nat) (h : k < b.length) : joinL a (b.take (k + 1)) = withL (joinL a (b.take k)) (b.getD k (0, 0)).1 (b.getD k (0, 0)).2 := by
  unfold joinL
  rw [List.take_succ_eq_append_getElem h, List.foldl_append, List.getD, List.getElem?_eq_getElem h]
  rfl

theorem pair_bd {m : List (Int × Int)} (h : Ok m) {k : Nat} (hk : k < m.length) : 0 ≤ (m.getD k (0, 0)).1 ∧ (m.getD k (0, 0)).1 < 4096 ∧ 0 < (m.getD k (0, 0)).2 ∧ (m.getD k (0, 0)).2 < 9223372036854775808 := by
  rw [List.getD, List.getElem?_eq_getElem hk]
  have := h.2 _ (List.getElem_mem hk)
  exact ⟨this.1.1, this.1.2, this.2.1, this.2.2⟩

theorem ok_joinT {a b : List (Int × Int)} (oa : Ok a) (ob : Ok b) (k : Nat) : Ok (joinL a (b.take k)) :=
  ok_joinL oa (fun p hp => (ob.2 p (List.mem_of_mem_take hp)).2.2)

def HeadJ (w : World) (a b : List (Int × Int)) (ov iv : Value) (wr : World) : Prop :=
  ∃ k : Nat, k ≤ b.length ∧ iv = .int .i64 k ∧ IsP wr ov (joinL a (b.take k)) ∧ Below w.heap.size w wr

set_option maxRecDepth 100000 in
set_option maxHeartbeats 1600000 in
theorem rjoin_any (va vb : Value) (a b : List (Int × Int)) (w : World) (oa : Ok a) (ob : Ok b) (ha : IsP w va a) (hb : IsP w vb b) :
    Calls Try.prog 21 #[va, vb] w (NewP w (joinL a b)) := by
  have hl := ok_length ob
  obtain ⟨p, cap, rfl, hpb⟩ := hb.at
  have HB := Lib.hid hpb
  have HA := Lib.hid ha
  clear hpb ha hb
  go_enter Try.func21, Try.ntmps21
  go_wp2
  go_loopw [5, 6] (fun ov iv wr => HeadJ w a b ov iv wr) (fun _ iv _ => b.length - (intOf iv).toNat)
  case atStart => exact ⟨0, by omega, rfl, HA.out, Below.refl _ _⟩
  case round =>
    obtain ⟨k, hk, rfl, hP, hnx⟩ := hrel
    have NX := Lib.hid hnx
    have PP := Lib.hid hP
    clear hnx hP
    by_cases hlt : k < b.length
    · obtain ⟨g, rfl, hg, c1, c2⟩ := HB.out k hlt
      have c1 := (NX.out.cell hg).trans c1
      have c2 := (NX.out.cell hg).trans c2
      have hgs : g < wr.heap.size := Nat.lt_of_lt_of_le hg NX.out.size
      have hms := joinL_take a b k hlt
      obtain ⟨x0, x1, y0, y1⟩ := pair_bd ob hlt
      have OJ := Lib.hid (ok_joinT oa ob k)
      generalize (b.getD k (0, 0)).1 = x at *
      generalize (b.getD k (0, 0)).2 = y at *
      have HM := Lib.hid hms
      clear hms
      have hlo : (0 : Int) ≤ (k : Int) := by omega
      have hhi : (k : Int) < (b.length : Int) := by omega
      go_wp2_with fail
      have c1 : wr.drew.cell? ⟨g, k * 2, none⟩ = some (.int .i64 x) := c1
      have c2 : wr.drew.cell? ⟨g, k * 2 + 1, none⟩ = some (.int .i64 y) := c2
      have P1 := Lib.hid (PP.out.below (Below.refl _ _).drew)
      go_region_held3 (fun w' => w'.cell? ⟨g, k * 2, none⟩ = some (.int .i64 x) ∧ w'.cell? ⟨g, k * 2 + 1, none⟩ = some (.int .i64 y))
        (first | exact ⟨c1, c2⟩ | exact e0)
        (first
          | (go_at_call 17; (with_reducible refine (rwith_any _ _ _ _ _ OJ.out y1 P1.out).mono ?_); rintro e w5 ⟨v5, rfl, hp5, hb5⟩; have e0 := (⟨(hb5.cell (p := ⟨g, k * 2, none⟩) hgs).trans c1, (hb5.cell (p := ⟨g, k * 2 + 1, none⟩) hgs).trans c2⟩ : w5.cell? ⟨g, k * 2, none⟩ = some (.int .i64 x) ∧ w5.cell? ⟨g, k * 2 + 1, none⟩ = some (.int .i64 y))))
      have hb6 := Lib.hid ((NX.out.drew).trans (hb5.mono NX.out.size))
      rw [← HM.out] at hp5
      have HP5 := Lib.hid hp5
      clear c1 c2 e0 hb5 hp5 NX
      go_wp2
      go_roundw
      case rel => exact ⟨k + 1, by omega, by go_num, HP5.out, hb6.out⟩
      case measure => simp [intOf]; omega
    · have he : k = b.length := by omega
      subst he
      rw [List.take_length] at PP
      go_wp2
      go_ret
      exact ⟨_, rfl, PP.out, NX.out⟩

theorem great_any (v : Value) (ops : List (Int × Int)) (w : World) (hs : ∃ a cap, v = .slice a ops.length cap) :
    Calls Try.prog 10 #[v] w fun e w' => e = .returned (.bool (decide (100 < ops.length))) ∧ w = w' := by
  obtain ⟨a, cap, rfl⟩ := hs
  by_cases h : 100 < ops.length
  · go_enter Try.func10, Try.ntmps10
    go_wp2
    go_ret
    exact ⟨by simp [h]; omega, rfl⟩
  · go_enter Try.func10, Try.ntmps10
    go_wp2
    go_ret
    exact ⟨by simp [h]; omega, rfl⟩
end Go.Proofs.Ytapaimoahiplcaa
