/- parse of the reference, at every string of at most 3000 bytes: it is the parse of the package. -/
import Derived.Test.YtpgcnejofnhhfaaDoorRRead
import Derived.Test.YtpgcnejofnhhfaaDoorParse
namespace Go.Proofs.YtpgcnejofnhhfaaDoor
open Go.ChangeShapes Go.WideShapes Go.ChangeAt Go.RowKit

def RParseP (s : ByteArray) (w : World) (e : Ending) (w' : World) : Prop := ∃ v, e = .returned (.tuple #[v, .int .i64 (parseL s).2.1, .int .i64 (parseL s).2.2]) ∧ Row 37 w.heap.size w' v (parseL s).1 ∧ Below w.heap.size w w'
theorem RParseP.mk' {s : ByteArray} {w w' : World} {p : List Pk} {y x : Int} {v : Value} {e : Ending} (h : parseL s = (p, y, x)) (he : e = .returned (.tuple #[v, .int .i64 y, .int .i64 x])) (hp : Row 37 w.heap.size w' v p) (hb : Below w.heap.size w w') : RParseP s w e w' := by
  refine ⟨v, ?_, ?_, hb⟩
  · rw [h]; exact he
  · rw [h]; exact hp
theorem go_line (f : Nat) (ln rest : List UInt8) (acc : List Pk) (h : (10 : UInt8) ∉ ln) : parseGo (f + 1) (ln ++ 10 :: rest) acc = if errL true (lineL ⟨ln.toArray⟩).2 acc.length = 0 then parseGo f rest (acc ++ [(lineL ⟨ln.toArray⟩).1]) else ([], (acc.length : Int) + 1, errL true (lineL ⟨ln.toArray⟩).2 acc.length) := by
  rw [parseGo, if_neg (by simp), cut_line ln rest h]
theorem go_open (f : Nat) (ln : List UInt8) (acc : List Pk) (h : (10 : UInt8) ∉ ln) (hn : ln ≠ []) : parseGo (f + 1) ln acc = ([], (acc.length : Int) + 1, 5) := by
  rw [parseGo, if_neg hn, cut_none ln h]
  rfl
theorem go_end (f : Nat) (acc : List Pk) : parseGo f [] acc = (acc, 0, 0) := by
  cases f with
  | zero => rfl
  | succ f => rw [parseGo, if_pos rfl]
/-- What holds at the head of the loop. -/
def HeadR (s : ByteArray) (L : List UInt8) (w : World) (ov lv nv iv : Value) (wr : World) : Prop :=
  ∃ (k : Nat) (ln : List UInt8) (acc : List Pk) (f : Nat), k ≤ s.size ∧ iv = .int .i64 k ∧ lv = .string ⟨ln.toArray⟩ ∧ nv = .int .i64 ((acc.length : Int) + 1) ∧ ln.length ≤ k ∧ acc.length ≤ 4096 ∧ (10 : UInt8) ∉ ln ∧ parseGo f (ln ++ L.drop k) acc = parseL s ∧ ln.length + (s.size - k) < f ∧ Row 37 w.heap.size wr ov acc ∧ Below w.heap.size w wr
set_option maxRecDepth 100000 in
set_option maxHeartbeats 1600000 in
theorem rparse_any (d : ByteArray) (w : World) (hs : d.size ≤ 3000) : Calls Tryd.prog 13 #[.string d] w (RParseP d w) := by
  obtain ⟨L, hL⟩ : ∃ L, d.data.toList = L := ⟨_, rfl⟩
  have hds : d.size = L.length := by rw [← hL, Array.length_toList]; rfl
  have hge : ∀ k (h : k < d.size) (h2 : k < L.length), d[k] = L[k] := by subst hL; intro k h h2; rfl
  have hex : ∀ k, k < L.length → d.extract k (k + 1) = ⟨[L.getD k 0].toArray⟩ := by
    intro k hk
    apply bytes_of
    rw [Lib.extract_toList, hL]
    simp only [Nat.add_sub_cancel_left]
    simp [List.getD, hk]
    rw [List.drop_eq_getElem_cons hk]
    rfl
  have H0 := Lib.hid (show parseL d = parseGo (d.size + 1) L [] by unfold parseL; rw [if_pos (by omega), hL])
  have HG := Lib.hid hge
  have HX := Lib.hid hex
  have HSZ := Lib.hid hds
  obtain ⟨i0, hi, hz0, hz1, hz2⟩ := info_parts info37
  have h3 : ¬ (65536 : Int) < d.size := by omega
  clear hL hge hex hds
  go_enter Tryd.func13, Tryd.ntmps13
  go_wp2_with fail
  clear h3
  go_loopw [5, 6, 7, 8] (fun ov lv nv iv wr => HeadR d L w ov lv nv iv wr) (fun _ _ _ iv _ => d.size - (intOf iv).toNat)
  case atStart => exact ⟨0, [], [], d.size + 1, by omega, rfl, rfl, rfl, by simp, by simp, by simp, H0.out.symm, by simp, Row.nil _ _ _, Below.refl _ _⟩
  case round =>
    obtain ⟨k, ln, acc, f, hk, rfl, rfl, rfl, hlk, hal, h10, hgo, hf, hrow, hb⟩ := hrel
    have HGO := Lib.hid hgo
    have HR := Lib.hid hrow
    have BB := Lib.hid hb
    have HT := Lib.hid h10
    have HF := Lib.hid hf
    clear hgo hrow hb h10 hf
    obtain ⟨pa, pcap, hpv, -⟩ := HR.out.ps
    subst hpv
    by_cases hlt : k < d.size
    · have hkl : k < L.length := by have := HSZ.out; omega
      have hg0 := HG.out k hlt hkl
      have hex := HX.out k hkl
      have hgd : L.getD k 0 = L[k] := by simp [List.getD, hkl]
      have hdr : L.drop k = L[k] :: L.drop (k + 1) := List.drop_eq_getElem_cons hkl
      rw [hgd] at hex
      rw [hdr] at HGO
      obtain ⟨b, hb⟩ : ∃ b, L[k] = b := ⟨_, rfl⟩
      rw [hb] at hg0 hex HGO
      clear hb hgd hdr
      by_cases hb10 : b = 10
      · subst hb10
        clear hex
        obtain ⟨f, rfl⟩ : ∃ g, f = g + 1 := ⟨f - 1, by have := HF.out; omega⟩
        have HGO2 := Lib.hid ((go_line f ln (L.drop (k + 1)) acc HT.out).symm.trans HGO.out)
        have HRD := Lib.hid (fun W => read_any ln W (by omega))
        rw [line_read] at HGO2
        clear HGO
        go_wp2_with fail
        refine (HRD.out _).mono ?_
        rintro e W2 ⟨rfl, hb⟩
        generalize readW (wordsF ln) = pe at *
        obtain ⟨⟨x0, x1, x2⟩, x⟩ := pe
        simp only [pkV] at HGO2 ⊢
        replace HR := Lib.hid (HR.out.below hb)
        replace BB := Lib.hid (BB.out.trans (hb.mono BB.out.size))
        clear hb HRD
        have hlt2 := BB.out.size
        by_cases hx : x = 0
        · subst hx
          by_cases ha : acc.length = 4096
          · have HX := Lib.hid (show errL true 0 acc.length = 15 by unfold errL; rw [ha]; rfl)
            have hai : (4096 : Int) < (acc.length : Int) + 1 := by omega
            go_wp2_with fail
            go_ret3
            refine RParseP.mk' (p := []) (y := (acc.length : Int) + 1) (x := 15) (by rw [← HGO2.out, if_neg (by rw [HX.out]; decide), HX.out]) rfl (Row.nil _ _ _) (BB.out.alloc hlt2 _)
          · have HX := Lib.hid (show errL true 0 acc.length = 0 by unfold errL; simp [ha])
            have hai : ¬ (4096 : Int) < (acc.length : Int) + 1 := by omega
            rw [HX.out, if_pos rfl] at HGO2
            clear HX
            go_wp2_with (first
              | (at_builtin; refine wpList_append_own _ rfl (.tmp 46) (.tmp 48) 27 rfl w.heap.size 37 i0 (.agg #[.int .i64 0, .int .i64 0, .int .i64 0]) 3 24 Tryd.underlying27 hi hz0 hz1 hz2 rfl (by decide) _ _ _ rfl ((HR.out.below (below1 _ _)).below (below1 _ _)) ⟨W2.heap.size + 1, 0, none⟩ 1 1 [.int .i64 x0, .int .i64 x1, .int .i64 x2] rfl rfl (tri_new' _ _ _ _ _ (by simp)) (tri_one _ _ _) (by unfold maxLen; omega) (by omega) (by simp; omega) ?_; intro v' w1 hown' hgrow _; have B1 := Lib.hid (below_app (BB.out.alloc hlt2 _) (by simp; omega) (HR.out.below (below1 _ _)) hgrow); have O1 := Lib.hid (row_snoc hown'); clear hown' hgrow)
              | go_in)
            go_roundw
            case rel => exact ⟨k + 1, [], acc ++ [(x0, x1, x2)], f, by omega, by go_num, rfl, by rw [List.length_append]; rfl, by simp, by simp; omega, by simp, HGO2.out, by have := HF.out; simp; omega, O1.out, B1.out⟩
            case measure => simp [intOf]; omega
        · have HX := Lib.hid (show errL true x acc.length = x by unfold errL; simp [hx])
          have hxe : (x == 0) = false := by rw [beq_eq_false_iff_ne]; exact hx
          have hxn : (x != 0) = true := by rw [bne_iff_ne]; exact hx
          go_wp2_with fail
          go_ret3
          refine RParseP.mk' (p := []) (y := (acc.length : Int) + 1) (x := x) (by rw [← HGO2.out, if_neg (by rw [HX.out]; exact hx), HX.out]) rfl (Row.nil _ _ _) (BB.out.alloc hlt2 _)
      · have hbe : ((b.toNat : Int) != 10) = true := by rw [bne_iff_ne]; intro e; exact hb10 (UInt8.toNat_inj.1 (by simpa using (by omega : b.toNat = 10)))
        have hcat : (⟨ln.toArray⟩ : ByteArray) ++ ⟨[b].toArray⟩ = ⟨(ln ++ [b]).toArray⟩ := cat ln [b]
        have hsum : ln.length + 1 ≤ 9223372036854775807 := by omega
        have HT2 : Hid ((10 : UInt8) ∉ ln ++ [b]) := Lib.hid (by have := HT.out; simp [this, Ne.symm hb10])
        have HGO2 : Hid (parseGo f ((ln ++ [b]) ++ L.drop (k + 1)) acc = parseL d) := Lib.hid (by rw [← HGO.out]; simp)
        clear hb10 HGO
        go_wp2_with fail
        go_roundw
        case rel => exact ⟨k + 1, ln ++ [b], acc, f, by omega, by go_num, rfl, rfl, by simp; omega, hal, HT2.out, HGO2.out, by have := HF.out; simp; omega, HR.out, BB.out⟩
        case measure => simp [intOf]; omega
    · have HD : Hid (L.drop k = []) := Lib.hid (by rw [List.drop_eq_nil_iff]; have := HSZ.out; omega)
      rw [HD.out, List.append_nil] at HGO
      by_cases hn : ln = []
      · subst hn
        rw [go_end] at HGO
        go_wp2_with fail
        go_ret3
        exact RParseP.mk' HGO.out.symm rfl HR.out BB.out
      · have HN := Lib.hid hn
        have hie : (ln == ([] : List UInt8)) = false := by rw [beq_eq_false_iff_ne]; exact hn
        have hie2 : ln.isEmpty = false := by simpa using hn
        obtain ⟨f, rfl⟩ : ∃ g, f = g + 1 := ⟨f - 1, by have := HF.out; omega⟩
        rw [go_open f ln acc HT.out hn] at HGO
        clear hn
        go_wp2_with fail
        go_ret3
        exact RParseP.mk' HGO.out.symm rfl (Row.nil _ _ _) BB.out
end Go.Proofs.YtpgcnejofnhhfaaDoor
