/- Statement LayoutApart: the function that names a location. -/
import Derived.Test.YtgndlknlahglcaaDoorLayApartBase
namespace Go.Proofs.YtgndlknlahglcaaDoor.layoutApart
open Go.ChangeShapes Go.WideShapes Go.ChangeAt Go.RowKit Go.Maps
open Go.Proofs.YtgndlknlahglcaaDoor.layoutBits (owns_below At.only ne_key isKey ok_small)

theorem own_ne (T C B l : Nat) : ownL T C B l ≠ [] := by
  unfold ownL
  repeat' split
  all_goals simp
theorem own_small (T C B l : Nat) : (⟨(ownL T C B l).toArray⟩ : ByteArray).size ≤ maxLen := by
  unfold ownL maxLen
  repeat' split
  all_goals simp [ByteArray.size]

set_option maxRecDepth 100000 in
set_option maxHeartbeats 1600000 in
theorem name_new {T C B r r' n n1 n2 n3 b1 b2 k : Nat} {w W : World} (N : NS T C B r n n1 n2 n3 b1 b2 k w W) (p : Nat) (hok : Ok T C B) (hpN : p < startL T C B 7) (hr : r ≤ rank T C B p) (hr' : rank T C B p < r') (hk : k ≤ 100000)
    (hl : ∀ W', Below W.heap.size W W' → (Instr.lookup 52 (.map (some b2)) (.int .i64 ((p : Int) / 8)) false).run Tryd.prog W' = .ok (.string ⟨#[]⟩) W') :
    Calls Tryd.prog 28 #[.int .i64 p, .string ⟨(ownL T C B (p / 8)).toArray⟩, .pointer (some ⟨n, 0, none⟩), .pointer (some ⟨n1, 0, none⟩), .pointer (some ⟨n2, 0, none⟩), .pointer (some ⟨n3, 0, none⟩)] W fun e W' => e = .returned (.tuple #[]) ∧ NS T C B r' n n1 n2 n3 b1 b2 (k + 2) w W' := by
  have HN := Lib.hid N
  have HL := Lib.hid hl
  have hN : startL T C B 7 ≤ 4096 := hok.2
  have HZ := Lib.hid (show sizeI T C B = (startL T C B 7 : Int) by unfold sizeI; rw [checkI_ok hok, if_pos rfl]; simp)
  have HM := Lib.hid (fun W (h : NS T C B r n n1 n2 n3 b1 b2 k w W) => h.met p hr (by omega))
  have HK1 := Lib.hid (key_loc p (by omega))
  have HK2 := Lib.hid (show keyOf Tryd.prog 3 (.int .i64 ((p : Int) / 8)) = some (.int .i64 ((p / 8 : Nat) : Int)) by rw [show (p : Int) / 8 = ((p / 8 : Nat) : Int) by simp]; exact key_int _ (by omega))
  have HPE : Hid (plainElem (H := Unit) Tryd.prog 9 (.string ⟨(ownL T C B (p / 8)).toArray⟩) = some (.lit (.string (ownL T C B (p / 8))), [])) := Lib.hid (plainElem_string Tryd.underlying9 (own_small T C B _))
  have hne := own_ne T C B (p / 8)
  clear N hl hok
  generalize hown : ownL T C B (p / 8) = ow at hne HPE HL ⊢
  have HOW := Lib.hid hown
  clear hown
  have hp0 : ¬ (p : Int) < 0 := by omega
  have hp7 : ¬ (startL T C B 7 : Int) ≤ p := by omega
  have q1 : ((ow : List UInt8) == []) = false := by cases ow with | nil => exact absurd rfl hne | cons a r => rfl
  have q4 : ow.isEmpty = false := by cases ow with | nil => exact absurd rfl hne | cons a r => rfl
  have q2 : (ByteArray.toList ⟨ow.toArray⟩) = ow := by rw [ByteArray.toList_eq]
  have q3 : (ByteArray.toList ⟨#[]⟩) = [] := by rw [ByteArray.toList_eq]
  obtain ⟨x0, x1, x2⟩ := HN.out.a.x
  go_enter Tryd.func28, Tryd.ntmps28
  go_wp2_with fail
  refine (size_any T C B _ HN.out.a.g).mono ?_
  rintro e w1 ⟨rfl, hb⟩
  rw [HZ.out]
  replace HN := Lib.hid (HN.out.below hb)
  have ll := HL.out _ hb
  clear hb x0 x1 x2
  obtain ⟨x0, x1, x2⟩ := HN.out.a.x
  have y1 := HN.out.c1.cell 0
  have y2 := HN.out.c2.cell 0
  simp only [List.getElem?_toArray, List.getElem?_cons_zero] at y1 y2
  have lm := HM.out _ HN.out
  obtain ⟨D1, o1, d1⟩ := HN.out.m1
  have O1 := Lib.hid o1
  have E1 := Lib.hid d1
  clear o1 d1
  go_wp2_with (first
    | (at_mapUpdate; refine wpList_mapUpdate_own _ rfl _ _ _ 51 rfl 32 4 lawL Tryd.underlying51 _ b1 k _ rfl O1.out (by unfold maxLen; omega) _ _ _ rfl rfl HK1.out _ [] (plainElem_bool Tryd.underlying4 true) ?_; intro w2 hown2 hg2; have N2 := Lib.hid (HN.out.one (r' := r') hown2 E1.out O1.out.lt hg2 hr hr'); clear hown2 hg2; have y3 := N2.out.c2.cell 0; simp only [List.getElem?_toArray, List.getElem?_cons_zero] at y3; obtain ⟨D2, o2, d2⟩ := N2.out.m2; have O2 := Lib.hid o2; have E2 := Lib.hid d2; clear o2 d2)
    | (at_mapUpdate; refine wpList_mapUpdate_own _ rfl _ _ _ 52 rfl 3 9 lawI Tryd.underlying52 _ b2 (k + 1) _ rfl O2.out (by unfold maxLen; omega) _ _ _ rfl rfl HK2.out _ [] HPE.out ?_; intro w3 hown3 hg3; rw [← HOW.out] at hown3; have N3 := Lib.hid (N2.out.two hown3 E2.out O2.out.lt hg3); clear hown3 hg3))
  go_end0
  exact ⟨rfl, N3.out⟩

set_option maxRecDepth 100000 in
set_option maxHeartbeats 1600000 in
theorem name_old {T C B r r' n n1 n2 n3 b1 b2 k : Nat} {w W : World} (N : NS T C B r n n1 n2 n3 b1 b2 k w W) (p : Nat) (hok : Ok T C B) (hpN : p < startL T C B 7) (hr : r ≤ rank T C B p) (hr' : rank T C B p < r') (hk : k ≤ 100000)
    (hl : ∀ W', Below W.heap.size W W' → (Instr.lookup 52 (.map (some b2)) (.int .i64 ((p : Int) / 8)) false).run Tryd.prog W' = .ok (.string ⟨(ownL T C B (p / 8)).toArray⟩) W') :
    Calls Tryd.prog 28 #[.int .i64 p, .string ⟨(ownL T C B (p / 8)).toArray⟩, .pointer (some ⟨n, 0, none⟩), .pointer (some ⟨n1, 0, none⟩), .pointer (some ⟨n2, 0, none⟩), .pointer (some ⟨n3, 0, none⟩)] W fun e W' => e = .returned (.tuple #[]) ∧ NS T C B r' n n1 n2 n3 b1 b2 (k + 2) w W' := by
  have HN := Lib.hid N
  have HL := Lib.hid hl
  have hN : startL T C B 7 ≤ 4096 := hok.2
  have HZ := Lib.hid (show sizeI T C B = (startL T C B 7 : Int) by unfold sizeI; rw [checkI_ok hok, if_pos rfl]; simp)
  have HM := Lib.hid (fun W (h : NS T C B r n n1 n2 n3 b1 b2 k w W) => h.met p hr (by omega))
  have HK1 := Lib.hid (key_loc p (by omega))
  have HK2 := Lib.hid (show keyOf Tryd.prog 3 (.int .i64 ((p : Int) / 8)) = some (.int .i64 ((p / 8 : Nat) : Int)) by rw [show (p : Int) / 8 = ((p / 8 : Nat) : Int) by simp]; exact key_int _ (by omega))
  have HPE : Hid (plainElem (H := Unit) Tryd.prog 9 (.string ⟨(ownL T C B (p / 8)).toArray⟩) = some (.lit (.string (ownL T C B (p / 8))), [])) := Lib.hid (plainElem_string Tryd.underlying9 (own_small T C B _))
  have hne := own_ne T C B (p / 8)
  clear N hl hok
  generalize hown : ownL T C B (p / 8) = ow at hne HPE HL ⊢
  have HOW := Lib.hid hown
  clear hown
  have hp0 : ¬ (p : Int) < 0 := by omega
  have hp7 : ¬ (startL T C B 7 : Int) ≤ p := by omega
  have q1 : ((ow : List UInt8) == []) = false := by cases ow with | nil => exact absurd rfl hne | cons a r => rfl
  have q4 : ow.isEmpty = false := by cases ow with | nil => exact absurd rfl hne | cons a r => rfl
  have q2 : (ByteArray.toList ⟨ow.toArray⟩) = ow := by rw [ByteArray.toList_eq]
  have q3 : (ByteArray.toList ⟨#[]⟩) = [] := by rw [ByteArray.toList_eq]
  obtain ⟨x0, x1, x2⟩ := HN.out.a.x
  go_enter Tryd.func28, Tryd.ntmps28
  go_wp2_with fail
  refine (size_any T C B _ HN.out.a.g).mono ?_
  rintro e w1 ⟨rfl, hb⟩
  rw [HZ.out]
  replace HN := Lib.hid (HN.out.below hb)
  have ll := HL.out _ hb
  clear hb x0 x1 x2
  obtain ⟨x0, x1, x2⟩ := HN.out.a.x
  have y1 := HN.out.c1.cell 0
  have y2 := HN.out.c2.cell 0
  simp only [List.getElem?_toArray, List.getElem?_cons_zero] at y1 y2
  have lm := HM.out _ HN.out
  obtain ⟨D1, o1, d1⟩ := HN.out.m1
  have O1 := Lib.hid o1
  have E1 := Lib.hid d1
  clear o1 d1
  go_wp2_with (first
    | (at_mapUpdate; refine wpList_mapUpdate_own _ rfl _ _ _ 51 rfl 32 4 lawL Tryd.underlying51 _ b1 k _ rfl O1.out (by unfold maxLen; omega) _ _ _ rfl rfl HK1.out _ [] (plainElem_bool Tryd.underlying4 true) ?_; intro w2 hown2 hg2; have N2 := Lib.hid (HN.out.one (r' := r') hown2 E1.out O1.out.lt hg2 hr hr'); clear hown2 hg2; have y3 := N2.out.c2.cell 0; simp only [List.getElem?_toArray, List.getElem?_cons_zero] at y3; obtain ⟨D2, o2, d2⟩ := N2.out.m2; have O2 := Lib.hid o2; have E2 := Lib.hid d2; clear o2 d2)
    | (at_mapUpdate; refine wpList_mapUpdate_own _ rfl _ _ _ 52 rfl 3 9 lawI Tryd.underlying52 _ b2 (k + 1) _ rfl O2.out (by unfold maxLen; omega) _ _ _ rfl rfl HK2.out _ [] HPE.out ?_; intro w3 hown3 hg3; rw [← HOW.out] at hown3; have N3 := Lib.hid (N2.out.two hown3 E2.out O2.out.lt hg3); clear hown3 hg3))
  go_end0
  exact ⟨rfl, N3.out⟩

theorem name_any {T C B r r' n n1 n2 n3 b1 b2 k : Nat} {w W : World} (N : NS T C B r n n1 n2 n3 b1 b2 k w W) (p : Nat) (hok : Ok T C B) (hpN : p < startL T C B 7) (hr : r ≤ rank T C B p) (hr' : rank T C B p < r') (hk : k ≤ 100000) {s : ByteArray} (hs : s = ⟨(ownL T C B (p / 8)).toArray⟩) :
    Calls Tryd.prog 28 #[.int .i64 p, .string s, .pointer (some ⟨n, 0, none⟩), .pointer (some ⟨n1, 0, none⟩), .pointer (some ⟨n2, 0, none⟩), .pointer (some ⟨n3, 0, none⟩)] W fun e W' => e = .returned (.tuple #[]) ∧ NS T C B r' n n1 n2 n3 b1 b2 (k + 2) w W' ∧ Below w.heap.size w W' := by
  subst hs
  have h4 := hok.2
  have e8 : ((p / 8 : Nat) : Int) = (p : Int) / 8 := by simp
  have hl := N.line (p / 8) (by omega)
  rw [e8] at hl
  rcases hl with h | h
  · exact (name_new N p hok hpN hr hr' hk h).mono fun e W' ⟨h1, h2⟩ => ⟨h1, h2, h2.a.b⟩
  · exact (name_old N p hok hpN hr hr' hk h).mono fun e W' ⟨h1, h2⟩ => ⟨h1, h2, h2.a.b⟩
end Go.Proofs.YtgndlknlahglcaaDoor.layoutApart
