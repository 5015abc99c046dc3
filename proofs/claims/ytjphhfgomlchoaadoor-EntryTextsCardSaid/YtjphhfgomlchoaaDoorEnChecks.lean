/- The walk through EntryChecks. -/
import Derived.Test.YtjphhfgomlchoaaDoorEnRCheck
namespace Go.Proofs.YtjphhfgomlchoaaDoor
open Go.ChangeShapes Go.WideShapes Go.ChangeAt Go.RowKit Go.Maps
set_option maxRecDepth 100000 in
set_option maxHeartbeats 1600000 in
theorem checks_walk (v : Value) (L : List En) (w : World) (hv : ES w v L) (_ : ∀ e ∈ L, OkE e) (_ : L.length ≤ maxLen) (ht : Tab w) : Calls Tryd.prog 3 #[v] w (Good2 w) := by
  have TT := Lib.hid ht
  have C1 := Lib.hid (fun W h => checkL_any v L W h)
  have C2 := Lib.hid (fun W h => rcheck_any v L W h)
  have HV := Lib.hid hv
  obtain ⟨a1, cp, rfl, hcap⟩ := hv.form
  clear hv ht
  obtain ⟨n, hn⟩ : ∃ n, L.length = n := ⟨_, rfl⟩
  rw [hn] at HV C1 C2 ⊢
  clear hn hcap
  by_cases hb : 60 < n
  · have hb1 : (60 : Int) < n := by omega
    go_enter Tryd.func3, Tryd.ntmps3
    go_wp2_with fail
    refine (awake_any w TT.out).mono ?_
    rintro e w1 ⟨rfl, hb⟩
    have BB := Lib.hid hb
    clear hb
    go_wp2_with fail
    go_ret
    exact ⟨rfl, BB.out⟩
  · have hb1 : ¬ (60 : Int) < n := by omega
    obtain ⟨c, hc⟩ : ∃ c, chkL L = c := ⟨_, rfl⟩
    rw [hc] at C1 C2
    clear hc
    have hcc : (c == c) = true := by simp
    go_enter Tryd.func3, Tryd.ntmps3
    go_wp2_with fail
    refine (C1.out w HV.out (by omega)).mono ?_
    rintro e w1 ⟨rfl, hb⟩
    have BB := Lib.hid hb
    clear hb C1
    go_wp2_with fail
    refine (C2.out w1 (HV.out.below BB.out) (by omega)).mono ?_
    rintro e w2 ⟨rfl, hb⟩
    replace BB := Lib.hid (BB.out.trans (hb.mono BB.out.size))
    clear hb C2
    go_wp2_with fail
    refine (awake_any w2 (TT.out.below BB.out)).mono ?_
    rintro e w3 ⟨rfl, hb⟩
    replace BB := Lib.hid (BB.out.trans (hb.mono BB.out.size))
    clear hb
    go_wp2_with fail
    go_ret
    exact ⟨rfl, BB.out⟩
end Go.Proofs.YtjphhfgomlchoaaDoor
