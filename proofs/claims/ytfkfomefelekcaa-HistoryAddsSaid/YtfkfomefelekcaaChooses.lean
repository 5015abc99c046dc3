/- HistoryChooses: the walk. -/
import Derived.Test.YtfkfomefelekcaaRefc
namespace Go.Proofs.Ytfkfomefelekcaa
open Go.RowKit Go.Shelf Go.Maps

theorem IsOnes.slice {w : World} {v : Value} {l : List One} (h : IsOnes w v l) : ∃ a cap, v = .slice a l.length cap := by
  rcases h with ⟨a, cap, rfl, rfl⟩ | ⟨b, off, cap, rfl, -, -⟩
  · exact ⟨a, cap, rfl⟩
  · exact ⟨_, cap, rfl⟩

set_option maxRecDepth 100000 in
set_option maxHeartbeats 1600000 in
theorem chooses (v : Value) (l : List One) (f c : Int) (w : World) (h : IsOnes w v l) (ho : OnesOk l) (f0 : -9223372036854775808 ≤ f) (f1 : f < 9223372036854775808) (c0 : -9223372036854775808 ≤ c) (c1 : c < 9223372036854775808) :
    Calls Try.prog 5 #[v, .int .i64 f, .int .i64 c] w fun e w' => e = .returned (.bool true) ∧ Below w.heap.size w w' := by
  obtain ⟨a, cap, rfl⟩ := h.slice
  have HI := Lib.hid h
  have HO := Lib.hid ho
  have HL := Lib.hid (msgsOf_length 0 0 0 l)
  have BB := Lib.hid (Below.refl w.heap.size w)
  clear h ho
  by_cases hl : 100 < l.length
  · clear HI HO HL
    generalize l.length = n at *
    go_enter Try.func5, Try.ntmps5
    go_wp2_with fail
    refine (awake_any _).mono ?_
    rintro e w1 ⟨rfl, hb⟩
    go_wp2
    go_ret
    exact ⟨rfl, hb⟩
  · obtain ⟨n, hn⟩ : ∃ n, l.length = n := ⟨_, rfl⟩
    have hd : ¬ (100 < n) := by omega
    have hnl : n ≤ 100 := by omega
    have HN := Lib.hid hn
    rw [hn] at HI HL ⊢
    clear hn hl hd
    go_enter Try.func5, Try.ntmps5
    go_wp2_with fail
    refine (awake_any _).mono ?_
    rintro e a0 ⟨rfl, hb⟩
    have HI' := Lib.hid (HI.out.below (hb))
    have BB' := Lib.hid (BB.out.trans ((hb).mono BB.out.size))
    clear HI
    have HI := HI'
    clear HI'
    clear BB
    have BB := BB'
    clear BB'
    clear hb
    go_wp2_with fail
    refine (made_any 0 0 0 _ l _ HI.out (by rw [HN.out]; omega) HO.out).mono ?_
    rintro e a1 hh
    obtain ⟨b, q, hq1, hq2, hq3, hq4, rfl, hq5, hb⟩ := hh.block
    clear hh hq5 hq3 hq4 hq2 hq1
    rw [HL.out]
    have HI' := Lib.hid (HI.out.below (hb))
    have BB' := Lib.hid (BB.out.trans ((hb).mono BB.out.size))
    clear HI
    have HI := HI'
    clear HI'
    clear BB
    have BB := BB'
    clear BB'
    clear hb
    go_wp2_with fail
    refine (choose_any _ (n + 1) (n + 1) f c _ (by omega) f0 f1 c0 c1).mono ?_
    rintro e a1 ⟨rfl, hb⟩
    have HI' := Lib.hid (HI.out.below (hb))
    have BB' := Lib.hid (BB.out.trans ((hb).mono BB.out.size))
    clear HI
    have HI := HI'
    clear HI'
    clear BB
    have BB := BB'
    clear BB'
    clear hb
    go_wp2_with fail
    refine (rchoose_any (n + 1) f c _ (by omega) (by omega) f0 f1 c0 c1).mono ?_
    rintro e a3 ⟨rfl, rfl⟩
    go_wp2
    go_ret
    exact ⟨by simp, BB.out⟩
end Go.Proofs.Ytfkfomefelekcaa
