/- MemoryRefuses: the walk, its parts together. -/
import Derived.Test.YtbaljoehgdhhhaaRefuse1
import Derived.Test.YtbaljoehgdhhhaaRefuse2
import Derived.Test.YtbaljoehgdhhhaaRefuse3
import Derived.Test.YtbaljoehgdhhhaaRefuse4
import Derived.Test.YtbaljoehgdhhhaaRefuse5
namespace Go.Proofs.Ytbaljoehgdhhhaa
open Go.RowKit Go.Shelf Go.Maps

theorem refuses (T : Int) (vf vl : Value) (ws : List Wd) (l : List DoV) (d : DoV) (x : Int) (w : World) (hw : IsWords w vf ws) (hd : IsDos w vl l) (hok : DosOk l) (hdo : d.Ok) :
    Calls Try.prog 8 #[.agg #[.int .i64 T, vf, vl], d.v, .int .i64 x] w fun e w' => e = .returned (.bool true) ∧ Below w.heap.size w w' := by
  obtain ⟨t, op, at_, oa, ob, oc, na, nb, nc, z⟩ := d
  obtain ⟨⟨p0, p1⟩, z0, z1⟩ := hdo
  simp only at p0 p1 z0 z1
  unfold DoV.v
  simp only
  by_cases he : newErr T ws.length ≠ 0
  · obtain ⟨y1, c1, rfl⟩ := hw.slice
    obtain ⟨y2, c2, rfl⟩ := hd.slice
    exact refuses_err T y1 y2 _ c1 _ c2 t op at_ oa ob oc na nb nc z x w he
  · have hT : 1 ≤ T ∧ T ≤ 8 ∧ 0 < ws.length ∧ ws.length ≤ 4096 := by
      unfold newErr at he
      have he := Decidable.not_not.1 he
      split at he
      · cases he
      · split at he
        · cases he
        · split at he
          · cases he
          · omega
    clear he
    obtain ⟨T, rfl⟩ : ∃ n : Nat, T = n := ⟨T.toNat, by omega⟩
    obtain ⟨ht0, ht1, h0, h1⟩ := hT
    have hF := hw
    rcases hw with ⟨_, _, _, rfl⟩ | ⟨bF, oF, c1, rfl, _, _⟩
    · simp at h0
    by_cases hf : ws.length ≤ 8 ∧ l.length ≤ 40
    · obtain ⟨hf1, hl⟩ := hf
      by_cases ho : op < 1 ∨ 6 < op
      · exact refuses_none T bF oF c1 ws vl l t op at_ oa ob oc na nb nc z x w h0 hf1 (by omega) (by omega) hF hd hl hok p0 p1 z0 z1 ho
      · have ho' : 1 ≤ op ∧ op ≤ 6 := by omega
        by_cases h1 : t < 1
        · skip
          by_cases hx1 : x < 1 ∨ 8 < x
          · skip
            exact refuses_tlow_bad T bF oF c1 ws vl l t op at_ oa ob oc na nb nc z x w h0 (by omega) (by omega) (by omega) hF hd hl hok p0 p1 z0 z1 ho' h1 hx1
          · obtain ⟨xn, rfl⟩ : ∃ n : Nat, x = n := ⟨x.toNat, by omega⟩
            exact refuses_tlow_ok T bF oF c1 ws vl l t op at_ oa ob oc na nb nc z xn w h0 (by omega) (by omega) (by omega) hF hd hl hok p0 p1 z0 z1 ho' h1 ⟨by omega, by omega⟩
        · by_cases h2 : (T : Int) < t
          · skip
            by_cases hx1 : x < 1 ∨ 8 < x
            · skip
              exact refuses_thigh_bad T bF oF c1 ws vl l t op at_ oa ob oc na nb nc z x w h0 (by omega) (by omega) (by omega) hF hd hl hok p0 p1 z0 z1 ho' h2 hx1
            · obtain ⟨xn, rfl⟩ : ∃ n : Nat, x = n := ⟨x.toNat, by omega⟩
              exact refuses_thigh_ok T bF oF c1 ws vl l t op at_ oa ob oc na nb nc z xn w h0 (by omega) (by omega) (by omega) hF hd hl hok p0 p1 z0 z1 ho' h2 ⟨by omega, by omega⟩
          · by_cases h3 : at_ < 0
            · skip
              by_cases hx1 : x < 1 ∨ 8 < x
              · skip
                exact refuses_alow_bad T bF oF c1 ws vl l t op at_ oa ob oc na nb nc z x w h0 (by omega) (by omega) (by omega) hF hd hl hok p0 p1 z0 z1 ho' ⟨by omega, by omega⟩ h3 hx1
              · obtain ⟨xn, rfl⟩ : ∃ n : Nat, x = n := ⟨x.toNat, by omega⟩
                exact refuses_alow_ok T bF oF c1 ws vl l t op at_ oa ob oc na nb nc z xn w h0 (by omega) (by omega) (by omega) hF hd hl hok p0 p1 z0 z1 ho' ⟨by omega, by omega⟩ h3 ⟨by omega, by omega⟩
            · by_cases h4 : (ws.length : Int) ≤ at_
              · skip
                by_cases hx1 : x < 1 ∨ 8 < x
                · skip
                  exact refuses_ahigh_bad T bF oF c1 ws vl l t op at_ oa ob oc na nb nc z x w h0 (by omega) (by omega) (by omega) hF hd hl hok p0 p1 z0 z1 ho' ⟨by omega, by omega⟩ h4 hx1
                · obtain ⟨xn, rfl⟩ : ∃ n : Nat, x = n := ⟨x.toNat, by omega⟩
                  exact refuses_ahigh_ok T bF oF c1 ws vl l t op at_ oa ob oc na nb nc z xn w h0 (by omega) (by omega) (by omega) hF hd hl hok p0 p1 z0 z1 ho' ⟨by omega, by omega⟩ h4 ⟨by omega, by omega⟩
              · skip
                by_cases hx1 : x < 1 ∨ 8 < x
                · skip
                  exact refuses_right_bad T bF oF c1 ws vl l t op at_ oa ob oc na nb nc z x w h0 (by omega) (by omega) (by omega) hF hd hl hok p0 p1 z0 z1 ho' ⟨by omega, by omega⟩ ⟨by omega, by omega⟩ hx1
                · obtain ⟨xn, rfl⟩ : ∃ n : Nat, x = n := ⟨x.toNat, by omega⟩
                  exact refuses_right_ok T bF oF c1 ws vl l t op at_ oa ob oc na nb nc z xn w h0 (by omega) (by omega) (by omega) hF hd hl hok p0 p1 z0 z1 ho' ⟨by omega, by omega⟩ ⟨by omega, by omega⟩ ⟨by omega, by omega⟩
    · obtain ⟨y2, c2, rfl⟩ := hd.slice
      exact refuses_many T bF oF c1 ws y2 _ c2 t op at_ oa ob oc na nb nc z x w h0 h1 (by omega) (by omega) hF hf
end Go.Proofs.Ytbaljoehgdhhhaa
