/- Print of package sched at every schedule: the text, or what is wrong. -/
import Derived.Test.YtpgcnejofnhhfaaDoorApp
import Derived.Laws.IdiomStrings
import Derived.Laws.BytesArg
namespace Go.Proofs.YtpgcnejofnhhfaaDoor
open Go.ChangeShapes Go.WideShapes Go.ChangeAt Go.RowKit Go.Shelf Go.Maps

/-- The text of a schedule. -/
def textL (L : List Pk) : List UInt8 := L.flatMap lineT
/-- The error of the first pick that is not valid. -/
def badL : List Pk → Int
  | [] => 0
  | p :: r => if checkL p = 0 then badL r else checkL p
def printL (L : List Pk) : List UInt8 × Int := if 4096 < L.length then ([], 15) else if badL L = 0 then (if 65536 < (textL L).length then ([], 7) else (textL L, 0)) else ([], badL L)
theorem lineT_le {p : Pk} (h1 : I64 p.2.1) (h2 : I64 p.2.2) : (lineT p).length ≤ 60 := by
  have a := itoa_le h1
  have b := itoa_le h2
  unfold lineT kwL
  split <;> split <;> split <;> (try split) <;> simp <;> omega
theorem textL_succ (L : List Pk) {k : Nat} (h : k < L.length) : textL (L.take (k + 1)) = textL (L.take k) ++ lineT (L.getD k zPk) := by
  rw [take_succ_getD L h, textL, List.flatMap_append]; simp [textL]
theorem textL_le (L : List Pk) (ho : PkOk L) : ∀ k, k ≤ L.length → (textL (L.take k)).length ≤ 60 * k
  | 0, _ => by simp [textL]
  | k + 1, h => by
    rw [textL_succ L (by omega), List.length_append]
    have := textL_le L ho k (by omega)
    have := lineT_le (p := L.getD k zPk) (ho.at (by omega)).2.1 (ho.at (by omega)).2.2
    omega
theorem badL_app (a b : List Pk) (h : badL a = 0) : badL (a ++ b) = badL b := by
  induction a with
  | nil => rfl
  | cons p r ih =>
    simp only [badL] at h
    simp only [List.cons_append, badL]
    split at h
    · rw [if_pos (by assumption)]; exact ih h
    · exact absurd h (by assumption)
theorem badL_at (L : List Pk) {k : Nat} (hk : k < L.length) (h : badL (L.take k) = 0) (hc : checkL (L.getD k zPk) ≠ 0) : badL L = checkL (L.getD k zPk) := by
  have e : L = L.take k ++ (L.getD k zPk :: L.drop (k + 1)) := by
    rw [List.getD, List.getElem?_eq_getElem hk]
    simp
  rw [e, badL_app _ _ h]
  simp only [badL]
  rw [← e, if_neg hc]
theorem badL_succ (L : List Pk) {k : Nat} (hk : k < L.length) (h : badL (L.take k) = 0) (hc : checkL (L.getD k zPk) = 0) : badL (L.take (k + 1)) = 0 := by
  rw [take_succ_getD L hk, badL_app _ _ h]
  simp only [badL]
  rw [if_pos hc]
theorem check_kind {p : Pk} (h : checkL p = 0) : p.1 = 0 ∨ p.1 = 1 ∨ p.1 = 2 := by
  unfold checkL at h
  split at h
  · cases h
  · omega
/-- appendLine at a valid pick. -/
theorem app_any (B : Nat) (p : Pk) (sv : Value) (l : List UInt8) (w : World) (hk : p.1 = 0 ∨ p.1 = 1 ∨ p.1 = 2) (ht : I64 p.2.1) (hc : I64 p.2.2) (hr : BRow B w sv l) (hB : B ≤ w.heap.size) (h9 : 9 ≤ B) (hl : l.length ≤ 1000000) (hg : Gl w) (hT : Tab w) :
    Calls Tryd.prog 30 #[sv, .agg #[.int .i64 p.1, .int .i64 p.2.1, .int .i64 p.2.2]] w fun e w' => ∃ v', e = .returned v' ∧ BRow B w' v' (l ++ lineT p) ∧ Below B w w' := by
  obtain ⟨k, t, c⟩ := p
  rcases hk with rfl | rfl | rfl
  · exact app0 B t c sv l w ht hc hr hB h9 hl hg hT
  · exact app1 B t c sv l w ht hc hr hB h9 hl hg hT
  · exact app2 B t c sv l w ht hc hr hB h9 hl hg hT
theorem BRow.form {B : Nat} {w : World} {v : Value} {l : List UInt8} (h : BRow B w v l) : ∃ a cap, v = .slice a l.length cap ∧ (convert 56 9 v).run Tryd.prog w = .ok (.string ⟨l.toArray⟩) w := by
  have h0 := h
  obtain ⟨h1, ⟨h2, h3⟩ | ⟨g, cap, cur, hv, hB, hh, r⟩⟩ := h
  · obtain rfl := List.length_eq_zero_iff.1 h3
    subst h2
    exact ⟨none, 0, rfl, run_convert_bytes_nil _ 56 5 Tryd.underlying56 Tryd.underlying5 0 0 9 Tryd.underlying9⟩
  · subst hv
    refine ⟨_, cap, rfl, run_convert_bytes_back (P := Tryd.prog) w 56 9 5 ⟨g, 0, none⟩ cap l Tryd.underlying56 Tryd.underlying5 Tryd.underlying9 (fun j hj => ?_)⟩
    have := World.ownsRow.cellAt h0 j (by omega)
    have e : (⟨g, 0, none⟩ : Addr).add j = ⟨g, j, none⟩ := by unfold Addr.add; split <;> simp_all
    rw [e, this]
    simp [Lib.byteCells, hj]
def PrintP (L : List Pk) (w : World) (e : Ending) (w' : World) : Prop := e = .returned (.tuple #[.string ⟨(printL L).1.toArray⟩, .int .i64 (printL L).2]) ∧ Below w.heap.size w w'
theorem PrintP.mk' {L : List Pk} {w w' : World} {t : List UInt8} {x : Int} {e : Ending} (h : printL L = (t, x)) (he : e = .returned (.tuple #[.string ⟨t.toArray⟩, .int .i64 x])) (hb : Below w.heap.size w w') : PrintP L w e w' := by
  refine ⟨?_, hb⟩
  rw [h, he]
theorem print_many (v : Value) (L : List Pk) (w : World) (hp : PS w v L) (hl : 4096 < L.length) : Calls Tryd.prog 15 #[v] w (PrintP L w) := by
  obtain ⟨a, cap, rfl, -⟩ := hp
  have HP := Lib.hid (show printL L = ([], 15) by unfold printL; rw [if_pos hl])
  have h1 : (4096 : Int) < L.length := by omega
  go_enter Tryd.func15, Tryd.ntmps15
  go_wp2_with fail
  go_ret2
  exact PrintP.mk' HP.out rfl (Below.refl _ _)
set_option maxRecDepth 100000 in
set_option maxHeartbeats 3200000 in
theorem print_any (v : Value) (L : List Pk) (w : World) (hp : PS w v L) (ho : PkOk L) (hl : ¬ 4096 < L.length) (hg : Gl w) (hT : Tab w) : Calls Tryd.prog 15 #[v] w (PrintP L w) := by
  obtain ⟨a, cap, rfl, h⟩ := hp
  have H := Lib.hid h
  have HO := Lib.hid ho
  have HG := Lib.hid hg
  have HT := Lib.hid hT
  have h9 := hg.big
  clear h ho hg hT
  obtain ⟨n, hn⟩ : ∃ n, L.length = n := ⟨_, rfl⟩
  have HPL := Lib.hid (show printL L = (if badL L = 0 then (if 65536 < (textL L).length then ([], 7) else (textL L, 0)) else ([], badL L)) by unfold printL; rw [if_neg hl])
  rw [hn] at hl ⊢
  have hl1 : ¬ (4096 : Int) < n := by omega
  go_enter Tryd.func15, Tryd.ntmps15
  go_wp2_with fail
  go_loopw [4, 13] (fun tv iv wr => ∃ k : Nat, k ≤ n ∧ iv = .int .i64 k ∧ badL (L.take k) = 0 ∧ BRow w.heap.size wr tv (textL (L.take k)) ∧ Below w.heap.size w wr) (fun _ iv _ => n - (intOf iv).toNat)
  case atStart => exact ⟨0, by omega, rfl, rfl, BRow.nil _ _, Below.refl _ _⟩
  case round =>
    obtain ⟨k, hk, rfl, hbad, hr, hb⟩ := hrel
    have HBD := Lib.hid hbad
    have R := Lib.hid hr
    have BB := Lib.hid hb
    have hws := hb.size
    have htl := textL_le L HO.out k (by omega)
    clear hbad hr hb
    by_cases hlt : k < n
    · rcases H.out with h | ⟨b0, off, rfl, hb0, hc⟩
      · subst h; simp at hn; omega
      obtain ⟨c0, c1, c2⟩ := hc k (by omega)
      rw [← BB.out.cell hb0] at c0 c1 c2
      clear hc
      have HI := Lib.hid (HO.out.at (k := k) (by omega))
      have HTS := Lib.hid (textL_succ L (k := k) (by omega))
      have HBA := Lib.hid (badL_at L (k := k) (by omega) HBD.out)
      have HBS := Lib.hid (badL_succ L (k := k) (by omega) HBD.out)
      rw [← getD_eta L k] at HTS HBA HBS
      generalize (L.getD k zPk).1 = x0 at *
      generalize (L.getD k zPk).2.1 = x1 at *
      generalize (L.getD k zPk).2.2 = x2 at *
      have hbs := below1 wr (.cells #[.int .i64 x0, .int .i64 x1, .int .i64 x2] 35)
      have R1 := Lib.hid (R.out.below hbs)
      have B1 := Lib.hid (BB.out.trans (hbs.mono hws))
      have X1 : Hid (Box (wr.alloc (.cells #[.int .i64 x0, .int .i64 x1, .int .i64 x2] 35)) wr.heap.size #[.int .i64 x0, .int .i64 x1, .int .i64 x2] 35) := Lib.hid (Box.new wr _ 35 rfl)
      clear R BB hbs
      go_wp2_with fail
      clear c0 c1 c2
      generalize wr.alloc (.cells #[.int .i64 x0, .int .i64 x1, .int .i64 x2] 35) = W1 at *
      generalize wr.heap.size = bp at *
      refine (check_any x0 x1 x2 _).mono ?_
      rintro e W2 ⟨rfl, hb⟩
      replace R1 := Lib.hid (R1.out.below hb)
      replace X1 := Lib.hid (X1.out.below hb)
      replace B1 := Lib.hid (B1.out.trans (hb.mono B1.out.size))
      clear hb
      by_cases hq : checkL (x0, x1, x2) = 0
      · obtain ⟨⟨m0, m1, m2⟩, -⟩ := X1.out.cells3
        have HK := Lib.hid (check_kind hq)
        have HQ := Lib.hid hq
        rw [hq]
        clear hq
        go_wp2_with fail
        clear m0 m1 m2
        refine (app_any w.heap.size (x0, x1, x2) _ _ _ HK.out HI.out.2.1 HI.out.2.2 R1.out B1.out.size h9 (by omega) (HG.out.belowN B1.out h9) (HT.out.below B1.out (by omega))).mono ?_
        rintro e W3 ⟨v3, rfl, hr3, hb3⟩
        have B3 := Lib.hid (B1.out.trans hb3)
        have R3 := Lib.hid hr3
        clear hr3 hb3
        go_wp2_with fail
        go_roundw
        case rel => exact ⟨k + 1, by omega, by go_num, HBS.out HQ.out, by rw [HTS.out]; exact R3.out, B3.out⟩
        case measure => simp [intOf]; omega
      · have hqb : (checkL (x0, x1, x2) != 0) = true := by rw [bne_iff_ne]; exact hq
        have HE := Lib.hid (HBA.out hq)
        have HQ := Lib.hid hq
        clear hq
        go_wp2_with fail
        go_ret2
        exact PrintP.mk' (by rw [HPL.out, HE.out, if_neg HQ.out]) rfl B1.out
    · have htk : L.take k = L := List.take_of_length_le (by omega)
      rw [htk] at R HBD htl
      obtain ⟨ta, tc, htv, hcv⟩ := R.out.form
      subst htv
      by_cases hlong : 65536 < (textL L).length
      · have h6 : (65536 : Int) < (textL L).length := by omega
        have HL2 := Lib.hid hlong
        clear hlong hcv
        go_wp2_with fail
        go_ret2
        exact PrintP.mk' (by rw [HPL.out, if_pos HBD.out, if_pos HL2.out]) rfl BB.out
      · have h6 : ¬ (65536 : Int) < (textL L).length := by omega
        have HL2 := Lib.hid hlong
        clear hlong
        go_wp2_with fail
        go_ret2
        exact PrintP.mk' (by rw [HPL.out, if_pos HBD.out, if_neg HL2.out]) rfl BB.out
end Go.Proofs.YtpgcnejofnhhfaaDoor
