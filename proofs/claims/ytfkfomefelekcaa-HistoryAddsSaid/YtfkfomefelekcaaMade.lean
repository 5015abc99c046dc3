/- made: the history of a word and a list of descriptions. -/
import Derived.Test.YtfkfomefelekcaaOne
import Derived.Deep.LoopGhost
namespace Go.Proofs.Ytfkfomefelekcaa
open Go.RowKit Go.Shelf Go.Maps

def zeroOne : One := ⟨0, 0, 0, 0, 0, 0⟩
/-- The slice v holds the descriptions l. -/
def IsOnes (w : World) (v : Value) (l : List One) : Prop :=
  (∃ a cap, v = .slice a 0 cap ∧ l = []) ∨ ∃ b off cap, v = .slice (some ⟨b, off, none⟩) l.length cap ∧ b < w.heap.size ∧ ∀ i, i < l.length →
    w.cell? ⟨b, off + i * 6, none⟩ = some (.int .i64 (l.getD i zeroOne).val) ∧ w.cell? ⟨b, off + i * 6 + 1, none⟩ = some (.int .u32 (l.getD i zeroOne).ver) ∧ w.cell? ⟨b, off + i * 6 + 2, none⟩ = some (.int .u32 (l.getD i zeroOne).ref) ∧ w.cell? ⟨b, off + i * 6 + 3, none⟩ = some (.int .i64 (l.getD i zeroOne).thr) ∧ w.cell? ⟨b, off + i * 6 + 4, none⟩ = some (.int .u8 (l.getD i zeroOne).at_) ∧ w.cell? ⟨b, off + i * 6 + 5, none⟩ = some (.int .u8 (l.getD i zeroOne).known)
def OnesOk (l : List One) : Prop := ∀ o ∈ l, o.Ok
theorem IsOnes.below {w w1 : World} {v : Value} {l : List One} (h : IsOnes w v l) (hb : Below w.heap.size w w1) : IsOnes w1 v l := by
  rcases h with h | ⟨b, off, cap, h1, h2, h3⟩
  · exact .inl h
  · refine .inr ⟨b, off, cap, h1, Nat.lt_of_lt_of_le h2 hb.size, fun i hi => ?_⟩
    obtain ⟨c0, c1, c2, c3, c4, c5⟩ := h3 i hi
    exact ⟨(hb.cell h2).trans c0, (hb.cell h2).trans c1, (hb.cell h2).trans c2, (hb.cell h2).trans c3, (hb.cell h2).trans c4, (hb.cell h2).trans c5⟩
theorem onesOk_at {l : List One} (h : OnesOk l) {i : Nat} (hi : i < l.length) : (l.getD i zeroOne).Ok := h _ (by
  rw [List.getD_eq_getElem?_getD, List.getElem?_eq_getElem hi]; exact List.getElem_mem hi)

/-- The messages of made. -/
def msgsOf (a b c : Int) (l : List One) : List Msg := ⟨a, b, c, 0, []⟩ :: l.map One.msg
theorem msgsOf_length (a b c : Int) (l : List One) : (msgsOf a b c l).length = l.length + 1 := by simp [msgsOf]
theorem msgsOf_take (a b c : Int) (l : List One) (k : Nat) (hk : k < l.length) : msgsOf a b c (l.take (k + 1)) = msgsOf a b c (l.take k) ++ [(l.getD k zeroOne).msg] := by
  unfold msgsOf
  rw [List.take_add_one, List.getElem?_eq_getElem hk, List.getD_eq_getElem?_getD, List.getElem?_eq_getElem hk]
  simp only [List.map_append, Option.toList, List.map_cons, List.map_nil, List.cons_append, Option.getD]

/-- A new history of these messages. -/
def IsHist (w : World) (ms : List Msg) (e : Ending) (w' : World) : Prop :=
  ∃ b q, w.heap.size ≤ b ∧ q.map (·.1) = ms ∧ e = .returned (.agg #[.slice (some ⟨b, 0, none⟩) ms.length ms.length]) ∧ HW w' (.slice (some ⟨b, 0, none⟩) ms.length ms.length) q ∧ Below w.heap.size w w'

/-- At the loop's head: the variable's box, the result's box. -/
structure AtM (w : World) (b4 b5 : Nat) (ms : List Msg) (W : World) : Prop where
  r : Box W b4 #[.slice none 0 0] 29
  h : ∃ b q, b ≠ b5 ∧ b ≠ b4 ∧ q.map (·.1) = ms ∧ w.heap.size ≤ b ∧ Box W b5 #[.slice (some ⟨b, 0, none⟩) ms.length ms.length] 29 ∧ HW W (.slice (some ⟨b, 0, none⟩) ms.length ms.length) q
  g : Below w.heap.size w W


set_option maxRecDepth 100000 in
set_option maxHeartbeats 3200000 in
theorem made_some (x y z : Int) (b off cap : Nat) (l : List One) (w : World) (hl : l.length ≤ 1000) (ho : OnesOk l) (hbl : b < w.heap.size)
    (hc : ∀ i, i < l.length → w.cell? ⟨b, off + i * 6, none⟩ = some (.int .i64 (l.getD i zeroOne).val) ∧ w.cell? ⟨b, off + i * 6 + 1, none⟩ = some (.int .u32 (l.getD i zeroOne).ver) ∧ w.cell? ⟨b, off + i * 6 + 2, none⟩ = some (.int .u32 (l.getD i zeroOne).ref) ∧ w.cell? ⟨b, off + i * 6 + 3, none⟩ = some (.int .i64 (l.getD i zeroOne).thr) ∧ w.cell? ⟨b, off + i * 6 + 4, none⟩ = some (.int .u8 (l.getD i zeroOne).at_) ∧ w.cell? ⟨b, off + i * 6 + 5, none⟩ = some (.int .u8 (l.getD i zeroOne).known)) :
    Calls Try.prog 17 #[.agg #[.int .i64 x, .int .u32 y, .int .u32 z], .slice (some ⟨b, off, none⟩) l.length cap] w (IsHist w (msgsOf x y z l)) := by
  have HC := Lib.hid hc
  have HO := Lib.hid ho
  clear hc ho
  go_enter Try.func17, Try.ntmps17
  go_wp2_with fail
  refine (new_any x y z _).mono ?_
  rintro e w1 ⟨b1, hb1, rfl, hh, hb⟩
  simp only [World.size_alloc] at hb hb1
  have R4 := Lib.hid (Box.below (Box.new (w.alloc (.cells #[.int .i64 x, .int .u32 y, .int .u32 z] 24)) #[.slice none 0 0] 29 (n := w.heap.size + 1) (by simp)) (by simpa using hb))
  have BB := Lib.hid ((b2 w _ _).trans (hb.mono (by omega)))
  have H := Lib.hid hh
  have hs1 := hb.size
  simp only [World.size_alloc] at hs1
  have hbb1 : b1 < w1.heap.size := by obtain ⟨_, h | ⟨b', t, e, hk⟩⟩ := hh; exact absurd h.2 (by simp); cases e; exact lt_block hk
  clear hb hh
  simp only [List.length_cons, List.length_nil, Nat.zero_add] at H
  go_wp2_with fail
  go_loopw [12] (fun iv wr => ∃ k : Nat, k ≤ l.length ∧ iv = .int .i64 k ∧ AtM w (w.heap.size + 1) w1.heap.size (msgsOf x y z (l.take k)) wr) (fun iv _ => l.length - (intOf iv).toNat)
  case atStart =>
    refine ⟨0, by omega, rfl, R4.out.alloc _, ?_, BB.out.alloc BB.out.size _⟩
    exact ⟨b1, _, by omega, by omega, rfl, by omega, Box.new w1 _ 29 rfl, by simpa [msgsOf] using H.out.alloc _⟩
  case round =>
    obtain ⟨k, hk, rfl, hI⟩ := hrel
    clear R4 BB H
    generalize hb5 : w1.heap.size = b5 at *
    generalize hb4 : w.heap.size + 1 = b4 at *
    by_cases hlt : k < l.length
    · obtain ⟨R4, ⟨bq, q, hq5, hq4, hqm, hqb, B5, H⟩, BB⟩ := hI
      obtain ⟨c0, c1, c2, c3, c4, c5⟩ := HC.out k hlt
      rw [← BB.cell hbl] at c0 c1 c2 c3 c4 c5
      have OO := Lib.hid (onesOk_at HO.out hlt)
      have HM := Lib.hid (msgsOf_take x y z l k hlt)
      have hml : (msgsOf x y z (l.take k)).length = k + 1 := by rw [msgsOf_length, List.length_take]; omega
      have hql : q.length = k + 1 := by rw [← hml, ← hqm, List.length_map]
      generalize msgsOf x y z (l.take k) = ms at *
      generalize l.getD k zeroOne = o at *
      have HQ := Lib.hid hqm
      have HML : Hid ((ms ++ [o.msg]).length = k + 1 + 1) := Lib.hid (by rw [List.length_append, hml]; rfl)
      have HQ2 : Hid (∀ p : Option Nat, (q ++ [(o.msg, p)]).length = k + 1 + 1) := Lib.hid (fun p => by rw [List.length_append, hql]; rfl)
      rw [hml] at B5 H
      have l5 := B5.lt
      have l4 := R4.lt
      have lB := BB.size
      clear hqm hml
      go_wp2_with fail
      clear c0 c1 c2 c3 c4 c5
      have B7 := Lib.hid (Box.new wr #[.int .i64 o.val, .int .u32 o.ver, .int .u32 o.ref, .int .i64 o.thr, .int .u8 o.at_, .int .u8 o.known] 32 rfl)
      have B5 := Lib.hid (B5.alloc (.cells #[.int .i64 o.val, .int .u32 o.ver, .int .u32 o.ref, .int .i64 o.thr, .int .u8 o.at_, .int .u8 o.known] 32))
      have R4 := Lib.hid (R4.alloc (.cells #[.int .i64 o.val, .int .u32 o.ver, .int .u32 o.ref, .int .i64 o.thr, .int .u8 o.at_, .int .u8 o.known] 32))
      have H := Lib.hid (H.alloc (.cells #[.int .i64 o.val, .int .u32 o.ver, .int .u32 o.ref, .int .i64 o.thr, .int .u8 o.at_, .int .u8 o.known] 32))
      have BB := Lib.hid (BB.alloc lB (.cells #[.int .i64 o.val, .int .u32 o.ver, .int .u32 o.ref, .int .i64 o.thr, .int .u8 o.at_, .int .u8 o.known] 32))
      generalize wr.alloc (.cells #[.int .i64 o.val, .int .u32 o.ver, .int .u32 o.ref, .int .i64 o.thr, .int .u8 o.at_, .int .u8 o.known] 32) = W0 at *
      generalize wr.heap = hp at *
      generalize hp.size = b7 at *
      have B5' := Lib.hid (B5.out.below ((Below.refl _ _).drew))
      have B7' := Lib.hid (B7.out.below ((Below.refl _ _).drew))
      have R4' := Lib.hid (R4.out.below ((Below.refl _ _).drew))
      have H' := Lib.hid (H.out.below ((Below.refl _ _).drew))
      have BB' := Lib.hid (BB.out.trans (((Below.refl _ _).drew).mono BB.out.size))
      clear B5
      have B5 := B5'
      clear B5'
      clear B7
      have B7 := B7'
      clear B7'
      clear R4
      have R4 := R4'
      clear R4'
      clear H
      have H := H'
      clear H'
      clear BB
      have BB := BB'
      clear BB'
      refine wp_region_held_drew (S := fun w' => w'.cell? ⟨b7, 0, none⟩ = some (.int .i64 o.val) ∧ w'.cell? ⟨b7, 1, none⟩ = some (.int .u32 o.ver) ∧ w'.cell? ⟨b7, 2, none⟩ = some (.int .u32 o.ref) ∧ w'.cell? ⟨b7, 3, none⟩ = some (.int .i64 o.thr) ∧ w'.cell? ⟨b7, 4, none⟩ = some (.int .u8 o.at_) ∧ w'.cell? ⟨b7, 5, none⟩ = some (.int .u8 o.known)) (by kernel_rfl) ⟨B7.out.cell 0, B7.out.cell 1, B7.out.cell 2, B7.out.cell 3, B7.out.cell 4, B7.out.cell 5⟩ (fun hHeld => ?_)
      generalize World.drew W0 = V0 at *
      refine wpAnyH_take (i := 1) (oi := { dst := some 17, op := Op.load 32 (Operand.tmp 7), type := 32, pos := "law.go:33", after := #[], guard := none }) (v := ?d1_1xv1) rfl (by kernel_rfl) (by kernel_rfl) (by kernel_rfl) (fun _ _ _ h => h) (Or.inl ⟨by rfl, ?d1_1xy1⟩) (by assumption) ?d1_1xr1
      case d1_1xy1 => (intro w hSw; (try dsimp only at hSw); go_simp; try with_reducible rfl)
      (try simp only [Act.put])
      (try simp only [List.setIfInBounds_toArray])
      (try simp only [List.set_cons_succ])
      (try simp only [List.set_cons_zero])
      refine wpAnyH_ready (rs := [0, 2]) (by kernel_rfl) (by simp) ?_
      refine AllReadyH.cons (o := { dst := some 16, op := Op.load 29 (Operand.tmp 5), type := 29, pos := "law.go:33", after := #[], guard := none }) rfl (fun K hK => ?_) ?_
      · skip
        have c5 := B5.out.cells1.1
        go_simp
        clear c5
        refine hK.out _ _ ?_ (fun hHeld => ?_)
        · exact ⟨B7.out.cell 0, B7.out.cell 1, B7.out.cell 2, B7.out.cell 3, B7.out.cell 4, B7.out.cell 5⟩
        clear hK K
        (try simp only [Act.put])
        (try simp only [List.setIfInBounds_toArray])
        (try simp only [List.set_cons_succ])
        (try simp only [List.set_cons_zero])
        refine wpAnyH_ready (rs := [2]) (by kernel_rfl) (by simp) ?_
        refine AllReadyH.cons (o := { dst := some 18, op := Op.call { callee := Callee.value (Operand.func 11), args := #[Operand.tmp 17], argTypes := #[32] }, type := 38, pos := "law.go:33", after := #[{ on := 1, ground := Ground.data }], guard := none }) rfl (fun K hK => ?_) AllReadyH.nil
        go_simp
        go_at_call 11
        refine (make_any o _ OO.out).mono ?_
        rintro e v1 ⟨p2, rfl, hv, hb⟩
        have B5' := Lib.hid (B5.out.below (hb))
        have B7' := Lib.hid (B7.out.below (hb))
        have R4' := Lib.hid (R4.out.below (hb))
        have H' := Lib.hid (H.out.below (hb))
        have BB' := Lib.hid (BB.out.trans ((hb).mono BB.out.size))
        clear B5
        have B5 := B5'
        clear B5'
        clear B7
        have B7 := B7'
        clear B7'
        clear R4
        have R4 := R4'
        clear R4'
        clear H
        have H := H'
        clear H'
        clear BB
        have BB := BB'
        clear BB'
        clear hb
        have P2 := Lib.hid (hv)
        clear hv
        go_simp
        refine hK.out _ _ ?_ (fun hHeld => ?_)
        · exact ⟨B7.out.cell 0, B7.out.cell 1, B7.out.cell 2, B7.out.cell 3, B7.out.cell 4, B7.out.cell 5⟩
        clear hK K
        (try simp only [Act.put])
        (try simp only [List.setIfInBounds_toArray])
        (try simp only [List.set_cons_succ])
        (try simp only [List.set_cons_zero])
        refine wpAnyH_ready (rs := [3]) (by kernel_rfl) (by simp) ?_
        refine AllReadyH.cons (o := { dst := some 19, op := Op.call { callee := Callee.value (Operand.func 10), args := #[Operand.tmp 16, Operand.tmp 18], argTypes := #[29, 38] }, type := 29, pos := "law.go:33", after := #[{ on := 0, ground := Ground.data }, { on := 2, ground := Ground.data }, { on := 2, ground := Ground.chain }], guard := none }) rfl (fun K hK => ?_) AllReadyH.nil
        go_simp
        go_at_call 10
        have hlt5 := B5.out.lt
        have hlt4 := R4.out.lt
        have hltB := BB.out.size
        refine (add_any _ q (o.msg, p2) _ H.out P2.out (by omega)).mono ?_
        rintro e v2 ⟨b2, hb2, rfl, hh, hb⟩
        have B5' := Lib.hid (B5.out.below (hb))
        have B7' := Lib.hid (B7.out.below (hb))
        have R4' := Lib.hid (R4.out.below (hb))
        have H' := Lib.hid (H.out.below (hb))
        have P2' := Lib.hid (P2.out.below (hb))
        have BB' := Lib.hid (BB.out.trans ((hb).mono BB.out.size))
        clear B5
        have B5 := B5'
        clear B5'
        clear B7
        have B7 := B7'
        clear B7'
        clear R4
        have R4 := R4'
        clear R4'
        clear H
        have H := H'
        clear H'
        clear P2
        have P2 := P2'
        clear P2'
        clear BB
        have BB := BB'
        clear BB'
        clear hb
        have H2 := Lib.hid (hh)
        clear H
        clear P2
        clear hh
        rw [HQ2.out p2] at H2 ⊢
        go_simp
        refine hK.out _ _ ?_ (fun hHeld => ?_)
        · exact ⟨B7.out.cell 0, B7.out.cell 1, B7.out.cell 2, B7.out.cell 3, B7.out.cell 4, B7.out.cell 5⟩
        clear hK K
        (try simp only [Act.put])
        (try simp only [List.setIfInBounds_toArray])
        (try simp only [List.set_cons_succ])
        (try simp only [List.set_cons_zero])
        refine wpAnyH_ready (rs := [4]) (by kernel_rfl) (by simp) ?_
        refine AllReadyH.cons (o := { dst := none, op := Op.store 29 (Operand.tmp 5) (Operand.tmp 19), type := 0, pos := "law.go:33", after := #[{ on := 3, ground := Ground.data }, { on := 3, ground := Ground.chain }, { on := 0, ground := Ground.phase }, { on := 1, ground := Ground.phase }, { on := 2, ground := Ground.phase }, { on := 3, ground := Ground.phase }], guard := none }) rfl (fun K hK => ?_) AllReadyH.nil
        obtain ⟨m0, g0⟩ := B5.out.cells1
        go_simp
        clear m0 g0
        have B5' := Lib.hid ((B5.out).set 0 (.slice (some ⟨b2, 0, none⟩) (k + 1 + 1) (k + 1 + 1)))
        have B7' := Lib.hid (B7.out.only (by omega) ((Only.refl b5 v2).set 0 (.slice (some ⟨b2, 0, none⟩) (k + 1 + 1) (k + 1 + 1))))
        have R4' := Lib.hid (R4.out.only (by omega) ((Only.refl b5 v2).set 0 (.slice (some ⟨b2, 0, none⟩) (k + 1 + 1) (k + 1 + 1))))
        have H2' := Lib.hid (H2.out.only B5.out (fun a n c e => by cases e; simp only; omega) ((Only.refl b5 v2).set 0 (.slice (some ⟨b2, 0, none⟩) (k + 1 + 1) (k + 1 + 1))))
        have BB' := Lib.hid ((BB.out).put b5 (by omega) 0 (.slice (some ⟨b2, 0, none⟩) (k + 1 + 1) (k + 1 + 1)))
        clear B5
        have B5 := B5'
        clear B5'
        clear B7
        have B7 := B7'
        clear B7'
        clear R4
        have R4 := R4'
        clear R4'
        clear H2
        have H2 := H2'
        clear H2'
        clear BB
        have BB := BB'
        clear BB'
        generalize (World.setCell v2 ⟨b5, 0, none⟩ (.slice (some ⟨b2, 0, none⟩) (k + 1 + 1) (k + 1 + 1))) = v3 at *
        refine hK.out _ _ ?_ (fun hHeld => ?_)
        · exact ⟨B7.out.cell 0, B7.out.cell 1, B7.out.cell 2, B7.out.cell 3, B7.out.cell 4, B7.out.cell 5⟩
        clear hK K
        (try simp only [Act.put])
        (try simp only [List.setIfInBounds_toArray])
        (try simp only [List.set_cons_succ])
        (try simp only [List.set_cons_zero])
        refine wpAnyH_done (by kernel_rfl) ?_ _
        have i4 : AtM w b4 b5 (ms ++ [o.msg]) v3 := ⟨R4.out, ⟨b2, q ++ [(o.msg, p2)], by omega, by omega, by simp [HQ.out], by omega, by rw [HML.out]; exact B5.out, by rw [HML.out]; exact H2.out⟩, BB.out⟩
        rw [← HM.out] at i4
        have I4 := Lib.hid i4
        clear i4 B5 B7 R4 H2 BB hHeld
        go_wp2
        go_roundw
        case rel => exact ⟨k + 1, by omega, by simp, I4.out⟩
        case measure => (simp [intOf]; omega)
      refine AllReadyH.cons (o := { dst := some 18, op := Op.call { callee := Callee.value (Operand.func 11), args := #[Operand.tmp 17], argTypes := #[32] }, type := 38, pos := "law.go:33", after := #[{ on := 1, ground := Ground.data }], guard := none }) rfl (fun K hK => ?_) AllReadyH.nil
      go_simp
      go_at_call 11
      refine (make_any o _ OO.out).mono ?_
      rintro e v4 ⟨p2, rfl, hv, hb⟩
      have B5' := Lib.hid (B5.out.below (hb))
      have B7' := Lib.hid (B7.out.below (hb))
      have R4' := Lib.hid (R4.out.below (hb))
      have H' := Lib.hid (H.out.below (hb))
      have BB' := Lib.hid (BB.out.trans ((hb).mono BB.out.size))
      clear B5
      have B5 := B5'
      clear B5'
      clear B7
      have B7 := B7'
      clear B7'
      clear R4
      have R4 := R4'
      clear R4'
      clear H
      have H := H'
      clear H'
      clear BB
      have BB := BB'
      clear BB'
      clear hb
      have P2 := Lib.hid (hv)
      clear hv
      go_simp
      refine hK.out _ _ ?_ (fun hHeld => ?_)
      · exact ⟨B7.out.cell 0, B7.out.cell 1, B7.out.cell 2, B7.out.cell 3, B7.out.cell 4, B7.out.cell 5⟩
      clear hK K
      (try simp only [Act.put])
      (try simp only [List.setIfInBounds_toArray])
      (try simp only [List.set_cons_succ])
      (try simp only [List.set_cons_zero])
      refine wpAnyH_ready (rs := [0]) (by kernel_rfl) (by simp) ?_
      refine AllReadyH.cons (o := { dst := some 16, op := Op.load 29 (Operand.tmp 5), type := 29, pos := "law.go:33", after := #[], guard := none }) rfl (fun K hK => ?_) AllReadyH.nil
      have c5 := B5.out.cells1.1
      go_simp
      clear c5
      refine hK.out _ _ ?_ (fun hHeld => ?_)
      · exact ⟨B7.out.cell 0, B7.out.cell 1, B7.out.cell 2, B7.out.cell 3, B7.out.cell 4, B7.out.cell 5⟩
      clear hK K
      (try simp only [Act.put])
      (try simp only [List.setIfInBounds_toArray])
      (try simp only [List.set_cons_succ])
      (try simp only [List.set_cons_zero])
      refine wpAnyH_ready (rs := [3]) (by kernel_rfl) (by simp) ?_
      refine AllReadyH.cons (o := { dst := some 19, op := Op.call { callee := Callee.value (Operand.func 10), args := #[Operand.tmp 16, Operand.tmp 18], argTypes := #[29, 38] }, type := 29, pos := "law.go:33", after := #[{ on := 0, ground := Ground.data }, { on := 2, ground := Ground.data }, { on := 2, ground := Ground.chain }], guard := none }) rfl (fun K hK => ?_) AllReadyH.nil
      go_simp
      go_at_call 10
      have hlt5 := B5.out.lt
      have hlt4 := R4.out.lt
      have hltB := BB.out.size
      refine (add_any _ q (o.msg, p2) _ H.out P2.out (by omega)).mono ?_
      rintro e v5 ⟨b2, hb2, rfl, hh, hb⟩
      have B5' := Lib.hid (B5.out.below (hb))
      have B7' := Lib.hid (B7.out.below (hb))
      have R4' := Lib.hid (R4.out.below (hb))
      have H' := Lib.hid (H.out.below (hb))
      have P2' := Lib.hid (P2.out.below (hb))
      have BB' := Lib.hid (BB.out.trans ((hb).mono BB.out.size))
      clear B5
      have B5 := B5'
      clear B5'
      clear B7
      have B7 := B7'
      clear B7'
      clear R4
      have R4 := R4'
      clear R4'
      clear H
      have H := H'
      clear H'
      clear P2
      have P2 := P2'
      clear P2'
      clear BB
      have BB := BB'
      clear BB'
      clear hb
      have H2 := Lib.hid (hh)
      clear H
      clear P2
      clear hh
      rw [HQ2.out p2] at H2 ⊢
      go_simp
      refine hK.out _ _ ?_ (fun hHeld => ?_)
      · exact ⟨B7.out.cell 0, B7.out.cell 1, B7.out.cell 2, B7.out.cell 3, B7.out.cell 4, B7.out.cell 5⟩
      clear hK K
      (try simp only [Act.put])
      (try simp only [List.setIfInBounds_toArray])
      (try simp only [List.set_cons_succ])
      (try simp only [List.set_cons_zero])
      refine wpAnyH_ready (rs := [4]) (by kernel_rfl) (by simp) ?_
      refine AllReadyH.cons (o := { dst := none, op := Op.store 29 (Operand.tmp 5) (Operand.tmp 19), type := 0, pos := "law.go:33", after := #[{ on := 3, ground := Ground.data }, { on := 3, ground := Ground.chain }, { on := 0, ground := Ground.phase }, { on := 1, ground := Ground.phase }, { on := 2, ground := Ground.phase }, { on := 3, ground := Ground.phase }], guard := none }) rfl (fun K hK => ?_) AllReadyH.nil
      obtain ⟨m0, g0⟩ := B5.out.cells1
      go_simp
      clear m0 g0
      have B5' := Lib.hid ((B5.out).set 0 (.slice (some ⟨b2, 0, none⟩) (k + 1 + 1) (k + 1 + 1)))
      have B7' := Lib.hid (B7.out.only (by omega) ((Only.refl b5 v5).set 0 (.slice (some ⟨b2, 0, none⟩) (k + 1 + 1) (k + 1 + 1))))
      have R4' := Lib.hid (R4.out.only (by omega) ((Only.refl b5 v5).set 0 (.slice (some ⟨b2, 0, none⟩) (k + 1 + 1) (k + 1 + 1))))
      have H2' := Lib.hid (H2.out.only B5.out (fun a n c e => by cases e; simp only; omega) ((Only.refl b5 v5).set 0 (.slice (some ⟨b2, 0, none⟩) (k + 1 + 1) (k + 1 + 1))))
      have BB' := Lib.hid ((BB.out).put b5 (by omega) 0 (.slice (some ⟨b2, 0, none⟩) (k + 1 + 1) (k + 1 + 1)))
      clear B5
      have B5 := B5'
      clear B5'
      clear B7
      have B7 := B7'
      clear B7'
      clear R4
      have R4 := R4'
      clear R4'
      clear H2
      have H2 := H2'
      clear H2'
      clear BB
      have BB := BB'
      clear BB'
      generalize (World.setCell v5 ⟨b5, 0, none⟩ (.slice (some ⟨b2, 0, none⟩) (k + 1 + 1) (k + 1 + 1))) = v6 at *
      refine hK.out _ _ ?_ (fun hHeld => ?_)
      · exact ⟨B7.out.cell 0, B7.out.cell 1, B7.out.cell 2, B7.out.cell 3, B7.out.cell 4, B7.out.cell 5⟩
      clear hK K
      (try simp only [Act.put])
      (try simp only [List.setIfInBounds_toArray])
      (try simp only [List.set_cons_succ])
      (try simp only [List.set_cons_zero])
      refine wpAnyH_done (by kernel_rfl) ?_ _
      have i4 : AtM w b4 b5 (ms ++ [o.msg]) v6 := ⟨R4.out, ⟨b2, q ++ [(o.msg, p2)], by omega, by omega, by simp [HQ.out], by omega, by rw [HML.out]; exact B5.out, by rw [HML.out]; exact H2.out⟩, BB.out⟩
      rw [← HM.out] at i4
      have I4 := Lib.hid i4
      clear i4 B5 B7 R4 H2 BB hHeld
      go_wp2
      go_roundw
      case rel => exact ⟨k + 1, by omega, by simp, I4.out⟩
      case measure => (simp [intOf]; omega)
    · obtain ⟨R4, ⟨bq, q, hq5, hq4, hqm, hqb, B5, H⟩, BB⟩ := hI
      have he : k = l.length := by omega
      subst he
      rw [List.take_length] at B5 H hqm
      have HH := Lib.hid (H.only R4 (fun a n c e => by cases e; exact hq4) ((Only.refl b4 wr).set 0 (.slice (some ⟨bq, 0, none⟩) (msgsOf x y z l).length (msgsOf x y z l).length)))
      have HB := Lib.hid (BB.put b4 (by omega) 0 (.slice (some ⟨bq, 0, none⟩) (msgsOf x y z l).length (msgsOf x y z l).length))
      have R5 := (R4.set 0 (.slice (some ⟨bq, 0, none⟩) (msgsOf x y z l).length (msgsOf x y z l).length)).cells1.1
      have HQ := Lib.hid hqm
      obtain ⟨c5, -⟩ := B5.cells1
      obtain ⟨c4, f4⟩ := R4.cells1
      clear H BB B5 R4 hqm
      obtain ⟨n, hn⟩ : ∃ n, (msgsOf x y z l).length = n := ⟨_, rfl⟩
      rw [hn] at R5 c5 HH HB
      go_wp2
      refine bodyPost_ret (v := .agg #[.slice (some ⟨bq, 0, none⟩) n n]) (by simp [results, Try.results17, go_sem, R5]) rfl ?_
      exact ⟨bq, q, hqb, HQ.out, by rw [hn], by rw [hn]; exact HH.out, HB.out⟩

set_option maxRecDepth 100000 in
set_option maxHeartbeats 1600000 in
theorem made_none (x y z : Int) (a : Option Addr) (cap : Nat) (w : World) :
    Calls Try.prog 17 #[.agg #[.int .i64 x, .int .u32 y, .int .u32 z], .slice a 0 cap] w (IsHist w (msgsOf x y z [])) := by
  go_enter Try.func17, Try.ntmps17
  go_wp2_with fail
  refine (new_any x y z _).mono ?_
  rintro e w1 ⟨b1, hb1, rfl, hh, hb⟩
  simp only [World.size_alloc] at hb hb1
  have R4 := Lib.hid (Box.below (Box.new (w.alloc (.cells #[.int .i64 x, .int .u32 y, .int .u32 z] 24)) #[.slice none 0 0] 29 (n := w.heap.size + 1) (by simp)) (by simpa using hb))
  have BB := Lib.hid ((b2 w _ _).trans (hb.mono (by omega)))
  have H := Lib.hid hh
  have hs1 := hb.size
  simp only [World.size_alloc] at hs1
  have hbb1 : b1 < w1.heap.size := by obtain ⟨_, h | ⟨b', t, e, hk⟩⟩ := hh; exact absurd h.2 (by simp); cases e; exact lt_block hk
  clear hb hh
  simp only [List.length_cons, List.length_nil, Nat.zero_add] at H
  go_wp2_with fail
  go_loopw [12] (fun iv wr => ∃ k : Nat, k = 0 ∧ iv = .int .i64 k ∧ AtM w (w.heap.size + 1) w1.heap.size (msgsOf x y z []) wr) (fun _ _ => 0)
  case atStart =>
    refine ⟨0, rfl, rfl, R4.out.alloc _, ?_, BB.out.alloc BB.out.size _⟩
    exact ⟨b1, _, by omega, by omega, rfl, by omega, Box.new w1 _ 29 rfl, by simpa [msgsOf] using H.out.alloc _⟩
  case round =>
    obtain ⟨k, rfl, rfl, hI⟩ := hrel
    clear R4 BB H
    generalize hb5 : w1.heap.size = b5 at *
    generalize hb4 : w.heap.size + 1 = b4 at *
    obtain ⟨R4, ⟨bq, q, hq5, hq4, hqm, hqb, B5, H⟩, BB⟩ := hI
    have HH := Lib.hid (H.only R4 (fun a n c e => by cases e; exact hq4) ((Only.refl b4 wr).set 0 (.slice (some ⟨bq, 0, none⟩) (msgsOf x y z []).length (msgsOf x y z []).length)))
    have HB := Lib.hid (BB.put b4 (by omega) 0 (.slice (some ⟨bq, 0, none⟩) (msgsOf x y z []).length (msgsOf x y z []).length))
    have R5 := (R4.set 0 (.slice (some ⟨bq, 0, none⟩) (msgsOf x y z []).length (msgsOf x y z []).length)).cells1.1
    have HQ := Lib.hid hqm
    obtain ⟨c5, -⟩ := B5.cells1
    obtain ⟨c4, f4⟩ := R4.cells1
    clear H BB B5 R4 hqm
    obtain ⟨n, hn⟩ : ∃ n, (msgsOf x y z []).length = n := ⟨_, rfl⟩
    rw [hn] at R5 c5 HH HB
    go_wp2
    refine bodyPost_ret (v := .agg #[.slice (some ⟨bq, 0, none⟩) n n]) (by simp [results, Try.results17, go_sem, R5]) rfl ?_
    exact ⟨bq, q, hqb, HQ.out, by rw [hn], by rw [hn]; exact HH.out, HB.out⟩

theorem made_any (x y z : Int) (v : Value) (l : List One) (w : World) (h : IsOnes w v l) (hl : l.length ≤ 1000) (ho : OnesOk l) :
    Calls Try.prog 17 #[.agg #[.int .i64 x, .int .u32 y, .int .u32 z], v] w (IsHist w (msgsOf x y z l)) := by
  rcases h with ⟨a, cap, rfl, rfl⟩ | ⟨b, off, cap, rfl, hb, hc⟩
  · exact made_none x y z a cap w
  · exact made_some x y z b off cap l w hl ho hb hc
end Go.Proofs.Ytfkfomefelekcaa
