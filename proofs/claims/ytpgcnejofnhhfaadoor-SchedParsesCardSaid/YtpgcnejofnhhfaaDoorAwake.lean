/- The example of the chapter on schedules, run by every statement: it returns true. -/
import Derived.Test.YtpgcnejofnhhfaaDoorFair
namespace Go.Proofs.YtpgcnejofnhhfaaDoor
open Go.ChangeShapes Go.WideShapes Go.ChangeAt Go.RowKit

def exB : ByteArray := ⟨#[115, 116, 101, 112, 32, 50, 32, 48, 10, 115, 116, 111, 112, 32, 49, 10, 99, 114, 97, 115, 104, 32, 45, 49, 10]⟩
def exL : List Pk := [(0, 2, 0), (1, 1, 0), (2, 0, -1)]
theorem ex_parse : parseL exB = (exL, 0, 0) := by decide +kernel
theorem ex_fair : fairL 2 3 = [(0, 1, 0), (0, 2, 0), (0, 1, 0)] := by decide +kernel
theorem PS.box {w : World} {b : Nat} {L : List Pk} {t : TypeId} {n : Nat} (h : Box w b (flat L).toArray t) (hn : n = L.length) : PS w (.slice (some ⟨b, 0, none⟩) n n) L := by
  subst hn
  refine ⟨_, _, rfl, .inr ⟨b, 0, rfl, h.lt, fun i hi => ?_⟩⟩
  obtain ⟨e0, e1, e2⟩ := flat_at L i hi
  rw [Nat.zero_add, h.cell, h.cell, h.cell]
  exact ⟨by simpa using e0, by simpa using e1, by simpa using e2⟩
set_option maxRecDepth 100000 in
set_option maxHeartbeats 1600000 in
theorem awake_any (w : World) (hg : Gl w) : Calls Tryd.prog 11 #[] w fun e w' => e = .returned (.bool true) ∧ Below w.heap.size w w' := by
  have HP := Lib.hid (parse_any exB w (by decide) hg)
  clear hg
  go_enter Tryd.func11, Tryd.ntmps11
  go_wp2_with fail
  refine HP.out.mono ?_
  rintro e w1 ⟨v, he, hr, hb⟩
  have BB := Lib.hid hb
  have R := Lib.hid hr.ps
  rw [ex_parse] at he R
  simp only at he R
  subst he
  clear hr hb HP
  go_wp2_with fail
  refine (fair_ok 2 3 _ (by omega) (by omega) (by omega)).mono ?_
  rintro e w2 ⟨u, rfl, hr, hb⟩
  have F := Lib.hid hr
  rw [ex_fair] at F
  replace BB := Lib.hid (BB.out.trans (hb.mono BB.out.size))
  replace R := Lib.hid (R.out.below hb)
  clear hr hb
  go_wp2_with fail
  have hb := below1 w2 (.cells #[.int .i64 0, .int .i64 2, .int .i64 0, .int .i64 1, .int .i64 1, .int .i64 0, .int .i64 2, .int .i64 0, .int .i64 (-1)] 35)
  refine (alike_any _ _ exL exL _ (by decide) (R.out.below hb) (PS.box (Box.new w2 _ 35 rfl) rfl)).mono ?_
  rintro e w3 ⟨rfl, hb3⟩
  replace BB := Lib.hid ((BB.out.trans (hb.mono BB.out.size)).trans (hb3.mono (Nat.le_trans BB.out.size hb.size)))
  replace F := Lib.hid ((F.out.below hb).below hb3)
  rw [show decide (exL = exL) = true from decide_eq_true rfl]
  clear R hb hb3
  go_wp2_with fail
  have hb := below1 w3 (.cells #[.int .i64 0, .int .i64 1, .int .i64 0, .int .i64 0, .int .i64 2, .int .i64 0, .int .i64 0, .int .i64 1, .int .i64 0] 35)
  refine (alike_any _ _ [(0, 1, 0), (0, 2, 0), (0, 1, 0)] [(0, 1, 0), (0, 2, 0), (0, 1, 0)] _ (by decide) (F.out.below hb) (PS.box (Box.new w3 _ 35 rfl) rfl)).mono ?_
  rintro e w4 ⟨rfl, hb4⟩
  replace BB := Lib.hid ((BB.out.trans (hb.mono BB.out.size)).trans (hb4.mono (Nat.le_trans BB.out.size hb.size)))
  rw [decide_eq_true rfl]
  clear F hb hb4
  go_wp2_with fail
  go_ret
  exact ⟨rfl, BB.out⟩
end Go.Proofs.YtpgcnejofnhhfaaDoor
