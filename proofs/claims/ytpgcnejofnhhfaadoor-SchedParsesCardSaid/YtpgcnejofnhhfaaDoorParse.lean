/- Parse of package sched at every string: the picks, the line at fault, the error. -/
import Derived.Test.YtpgcnejofnhhfaaDoorLineC
import Derived.Test.YtpgcnejofnhhfaaDoorRows3
namespace Go.Proofs.YtpgcnejofnhhfaaDoor
open Go.ChangeShapes Go.WideShapes Go.ChangeAt Go.RowKit

/-- The error of a line: its own, that of its missing end, or that of too many picks. -/
def errL (ended : Bool) (x : Int) (n : Nat) : Int := if ended = false then 5 else if x = 0 ∧ n = 4096 then 15 else x
/-- Parse behind the picks acc. -/
def parseGo : Nat → List UInt8 → List Pk → List Pk × Int × Int
  | 0, _, acc => (acc, 0, 0)
  | f + 1, s, acc => if s = [] then (acc, 0, 0) else
    if errL (Lib.cut s [10]).2.2 (lineL ⟨(Lib.cut s [10]).1.toArray⟩).2 acc.length = 0 then parseGo f (Lib.cut s [10]).2.1 (acc ++ [(lineL ⟨(Lib.cut s [10]).1.toArray⟩).1])
    else ([], (acc.length : Int) + 1, errL (Lib.cut s [10]).2.2 (lineL ⟨(Lib.cut s [10]).1.toArray⟩).2 acc.length)
def parseL (s : ByteArray) : List Pk × Int × Int := if s.size ≤ 65536 then parseGo (s.size + 1) s.data.toList [] else ([], 0, 7)
theorem cut_fst (s : List UInt8) : (Lib.cut s [10]).1.length ≤ s.length := by
  unfold Lib.cut; split
  · simp; omega
  · simp
theorem cut_snd {s : List UInt8} (h : s ≠ []) : (Lib.cut s [10]).2.1.length < s.length := by
  have : 0 < s.length := List.length_pos_iff.2 h
  unfold Lib.cut; split
  · simp; omega
  · simpa using this
theorem tri_new' (w : World) (x y z : Int) (t : TypeId) {n : Nat} (hn : n = w.heap.size) : ∀ j u, ([.int .i64 x, .int .i64 y, .int .i64 z] : List Value)[j]? = some u → (w.alloc (.cells #[.int .i64 x, .int .i64 y, .int .i64 z] t)).cell? ((⟨n, 0, none⟩ : Addr).add j) = some u := by
  subst hn; exact tri_new w x y z t
def strLen : Value → Nat
  | .string s => s.size
  | _ => 0
theorem cut_any (s : ByteArray) (w : World) (hs : s.size ≤ 65536) (hg : Gl w) : Calls Tryd.prog 26 #[.string s, .string ⟨#[10]⟩] w fun e w' => e = .returned (.tuple #[.string ⟨(Lib.cut s.data.toList [10]).1.toArray⟩, .string ⟨(Lib.cut s.data.toList [10]).2.1.toArray⟩, .bool (Lib.cut s.data.toList [10]).2.2]) ∧ ∃ n, w' = w.drewN n := by
  obtain ⟨m, hm⟩ := hg.ml
  exact Any.strings_Cut Tryd.lays145 s ⟨#[10]⟩ m w (by omega) hm
def ParseP (s : ByteArray) (w : World) (e : Ending) (w' : World) : Prop := ∃ v, e = .returned (.tuple #[v, .int .i64 (parseL s).2.1, .int .i64 (parseL s).2.2]) ∧ Row 35 w.heap.size w' v (parseL s).1 ∧ Below w.heap.size w w'
theorem ParseP.mk' {s : ByteArray} {w w' : World} {p : List Pk} {y x : Int} {v : Value} {e : Ending} (h : parseL s = (p, y, x)) (he : e = .returned (.tuple #[v, .int .i64 y, .int .i64 x])) (hp : Row 35 w.heap.size w' v p) (hb : Below w.heap.size w w') : ParseP s w e w' := by
  refine ⟨v, ?_, ?_, hb⟩
  · rw [h]; exact he
  · rw [h]; exact hp

/-- What holds at the head of Parse's loop. -/
def HeadP (s : ByteArray) (w : World) (sv pv : Value) (wr : World) : Prop :=
  ∃ (r : List UInt8) (acc : List Pk) (f : Nat), sv = .string ⟨r.toArray⟩ ∧ r.length < f ∧ r.length ≤ 65536 ∧ acc.length ≤ 4096 ∧ parseGo f r acc = parseL s ∧ Row 35 w.heap.size wr pv acc ∧ Below w.heap.size w wr
theorem parse_long (s : ByteArray) (w : World) (hs : ¬ s.size ≤ 65536) (h2 : s.size ≤ 9000000000000) : Calls Tryd.prog 12 #[.string s] w (ParseP s w) := by
  have HP := Lib.hid (show parseL s = ([], 0, 7) by unfold parseL; rw [if_neg hs])
  have h3 : (65536 : Int) < s.size := by omega
  go_enter Tryd.func12, Tryd.ntmps12
  go_wp2_with fail
  go_ret3
  exact ParseP.mk' HP.out rfl (Row.nil _ _ _) (Below.refl _ _)
set_option maxRecDepth 100000 in
set_option maxHeartbeats 1600000 in
theorem parse_any (s : ByteArray) (w : World) (hs : s.size ≤ 65536) (hg : Gl w) : Calls Tryd.prog 12 #[.string s] w (ParseP s w) := by
  have HG := Lib.hid hg
  have H0 := Lib.hid (show parseL s = parseGo (s.size + 1) s.data.toList [] by unfold parseL; rw [if_pos hs])
  obtain ⟨i0, hi, hz0, hz1, hz2⟩ := info_parts info35
  have h3 : ¬ (65536 : Int) < s.size := by omega
  clear hg
  go_enter Tryd.func12, Tryd.ntmps12
  go_wp2_with fail
  clear h3
  go_loopw [0, 5] (fun sv pv wr => HeadP s w sv pv wr) (fun sv _ _ => strLen sv)
  case atStart => exact ⟨s.data.toList, [], s.size + 1, rfl, by rw [Array.length_toList]; exact Nat.lt_succ_self _, by rw [Array.length_toList]; exact hs, by simp, H0.out.symm, Row.nil _ _ _, Below.refl _ _⟩
  case round =>
    obtain ⟨r, acc, f, rfl, hf, hrl, hal, hgo, hrow, hb⟩ := hrel
    have HGO := Lib.hid hgo
    have HR := Lib.hid hrow
    have BB := Lib.hid hb
    have G := Lib.hid (HG.out.belowN hb HG.out.big)
    clear hgo hrow hb
    by_cases hr : r = []
    · subst hr
      go_wp2_with fail
      go_ret3
      obtain ⟨f, rfl⟩ : ∃ g, f = g + 1 := ⟨f - 1, by omega⟩
      exact ParseP.mk' (by rw [← HGO.out]; simp only [parseGo, if_true]) rfl HR.out BB.out
    · obtain ⟨pa, pcap, hpv, -⟩ := HR.out.ps
      subst hpv
      have hie : r.isEmpty = false := by simpa using hr
      have HL := Lib.hid (cut_snd hr)
      have HL1 := Lib.hid (cut_fst r)
      obtain ⟨f, rfl⟩ : ∃ g, f = g + 1 := ⟨f - 1, by omega⟩
      have HGO2 : Hid ((if errL (Lib.cut r [10]).2.2 (lineL ⟨(Lib.cut r [10]).1.toArray⟩).2 acc.length = 0 then parseGo f (Lib.cut r [10]).2.1 (acc ++ [(lineL ⟨(Lib.cut r [10]).1.toArray⟩).1])
        else ([], (acc.length : Int) + 1, errL (Lib.cut r [10]).2.2 (lineL ⟨(Lib.cut r [10]).1.toArray⟩).2 acc.length)) = parseL s) := Lib.hid (by
        have := HGO.out
        rw [parseGo, if_neg hr] at this
        exact this)
      clear HGO hr
      go_wp2_with fail
      clear hie
      refine (cut_any ⟨r.toArray⟩ _ (by simpa [ByteArray.size] using hrl) G.out).mono ?_
      rintro e w' ⟨rfl, nn, rfl⟩
      have hbd := below_drewN (Below.refl wr.heap.size wr) nn
      replace G := Lib.hid (G.out.below hbd)
      replace HR := Lib.hid (HR.out.below hbd)
      replace BB := Lib.hid (BB.out.trans (hbd.mono BB.out.size))
      clear hbd
      generalize wr.drewN nn = W1 at *
      have HLN := Lib.hid (line_any ⟨(Lib.cut r [10]).1.toArray⟩ W1 (by have := HL1.out; simp only [ByteArray.size, List.size_toArray]; omega) G.out)
      simp only
      generalize hcc : Lib.cut r [10] = cc at *
      obtain ⟨c1, c2, c3⟩ := cc
      simp only at HL HL1 HGO2 HLN ⊢
      clear hcc
      go_wp2_with fail
      refine HLN.out.mono ?_
      rintro e W2 ⟨rfl, hb⟩
      generalize lineL ⟨c1.toArray⟩ = pe at *
      obtain ⟨⟨x0, x1, x2⟩, x⟩ := pe
      simp only [pkV] at HGO2 ⊢
      replace G := Lib.hid (G.out.below hb)
      replace HR := Lib.hid (HR.out.below hb)
      replace BB := Lib.hid (BB.out.trans (hb.mono BB.out.size))
      clear hb HLN
      have hlt := BB.out.size
      cases c3 with
      | false =>
        have HX := Lib.hid (show errL false x acc.length = 5 from rfl)
        go_wp2_with fail
        go_ret3
        refine ParseP.mk' (p := []) (y := (acc.length : Int) + 1) (x := 5) (by rw [← HGO2.out, if_neg (by rw [HX.out]; decide), HX.out]) rfl (Row.nil _ _ _) (BB.out.alloc hlt _)
      | true =>
        by_cases hx : x = 0
        · subst hx
          by_cases ha : acc.length = 4096
          · have HX := Lib.hid (show errL true 0 acc.length = 15 by unfold errL; rw [ha]; rfl)
            have hai : ((acc.length : Int) == 4096) = true := by rw [ha]; rfl
            go_wp2_with fail
            go_ret3
            refine ParseP.mk' (p := []) (y := 4097) (x := 15) (by rw [← HGO2.out, if_neg (by rw [HX.out]; decide), HX.out, ha]; rfl) rfl (Row.nil _ _ _) (BB.out.alloc hlt _)
          · have HX := Lib.hid (show errL true 0 acc.length = 0 by unfold errL; simp [ha])
            have hai : ((acc.length : Int) == 4096) = false := by rw [beq_eq_false_iff_ne]; omega
            rw [HX.out, if_pos rfl] at HGO2
            clear HX
            go_wp2_with (first
              | (at_builtin; refine wpList_append_own _ rfl (.tmp 44) (.tmp 46) 23 rfl w.heap.size 35 i0 (.agg #[.int .i64 0, .int .i64 0, .int .i64 0]) 3 24 Tryd.underlying23 hi hz0 hz1 hz2 rfl (by decide) _ _ _ rfl ((HR.out.below (below1 _ _)).below (below1 _ _)) ⟨W2.heap.size + 1, 0, none⟩ 1 1 [.int .i64 x0, .int .i64 x1, .int .i64 x2] rfl rfl (tri_new' _ _ _ _ _ (by simp)) (tri_one _ _ _) (by unfold maxLen; omega) (by omega) (by simp; omega) ?_; intro v' w1 hown' hgrow _; have B1 := Lib.hid (below_app (BB.out.alloc hlt _) (by simp; omega) (HR.out.below (below1 _ _)) hgrow); have O1 := Lib.hid (row_snoc hown'); clear hown' hgrow)
              | go_in)
            go_roundw
            case rel => exact ⟨c2, acc ++ [(x0, x1, x2)], f, rfl, by have := HL.out; omega, by have := HL.out; omega, by simp; omega, HGO2.out, O1.out, B1.out⟩
            case measure => have := HL.out; simpa [strLen, ByteArray.size] using this
        · have HX := Lib.hid (show errL true x acc.length = x by unfold errL; simp [hx])
          have hxe : (x == 0) = false := by rw [beq_eq_false_iff_ne]; exact hx
          have hxn : (x != 0) = true := by rw [bne_iff_ne]; exact hx
          go_wp2_with fail
          go_ret3
          refine ParseP.mk' (p := []) (y := (acc.length : Int) + 1) (x := x) (by rw [← HGO2.out, if_neg (by rw [HX.out]; exact hx), HX.out]) rfl (Row.nil _ _ _) (BB.out.alloc hlt _)
end Go.Proofs.YtpgcnejofnhhfaaDoor
