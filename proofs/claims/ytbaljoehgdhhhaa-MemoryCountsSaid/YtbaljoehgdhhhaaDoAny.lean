/- do, whatever the operation. -/
import Derived.Test.YtbaljoehgdhhhaaDob
import Derived.Test.YtbaljoehgdhhhaaDoc
namespace Go.Proofs.Ytbaljoehgdhhhaa
open Go.RowKit Go.Shelf Go.Maps

/-- One operation of a thread. -/
structure DoV where
  t : Int
  op : Int
  at_ : Int
  oa : Int
  ob : Int
  oc : Int
  na : Int
  nb : Int
  nc : Int
  z : Int
def DoV.v (d : DoV) : Value := .agg #[.int .i64 d.t, .int .i64 d.op, .int .i64 d.at_, .int .i64 d.oa, .int .u32 d.ob, .int .u32 d.oc, .int .i64 d.na, .int .u32 d.nb, .int .u32 d.nc, .int .i64 d.z]
def DoV.Ok (d : DoV) : Prop := (-9223372036854775808 ≤ d.at_ ∧ d.at_ < 9223372036854775808) ∧ (-9223372036854775808 ≤ d.z ∧ d.z < 9223372036854775808)
def zeroW : Value := .agg #[.int .i64 0, .int .u32 0, .int .u32 0]

/-- What do answers: the memory, the word, whether it succeeded, the error number. -/
def Mem.res (M : Mem) (d : DoV) : Mem × Value × Bool × Int :=
  if d.op < 1 ∨ 6 < d.op then (M, zeroW, false, 0)
  else if errOf M.hs.length M.vs.length d.t d.at_ ≠ 0 then (M, zeroW, false, errOf M.hs.length M.vs.length d.t d.at_)
  else if d.op = 1 then (M.readAt (d.t - 1).toNat d.at_.toNat (chooseL (M.hist d.at_.toNat).length (atL (M.view (d.t - 1).toNat) d.at_.toNat) d.z).toNat false, wordV (M.msg d.at_.toNat (chooseL (M.hist d.at_.toNat).length (atL (M.view (d.t - 1).toNat) d.at_.toNat) d.z).toNat), true, 0)
  else if d.op = 2 then (M.readAt (d.t - 1).toNat d.at_.toNat (chooseL (M.hist d.at_.toNat).length (atL (M.view (d.t - 1).toNat) d.at_.toNat) d.z).toNat true, wordV (M.msg d.at_.toNat (chooseL (M.hist d.at_.toNat).length (atL (M.view (d.t - 1).toNat) d.at_.toNat) d.z).toNat), true, 0)
  else if d.op = 3 then (M.writeAt (d.t - 1).toNat d.at_.toNat d.na d.nb d.nc false, zeroW, true, 0)
  else if d.op = 4 then (M.writeAt (d.t - 1).toNat d.at_.toNat d.na d.nb d.nc true, zeroW, true, 0)
  else if d.op = 5 then (M.readAt (d.t - 1).toNat d.at_.toNat ((M.hist d.at_.toNat).length - 1) true, wordV (M.msg d.at_.toNat ((M.hist d.at_.toNat).length - 1)), true, 0)
  else if (M.msg d.at_.toNat ((M.hist d.at_.toNat).length - 1)).val = d.oa ∧ (M.msg d.at_.toNat ((M.hist d.at_.toNat).length - 1)).ver = d.ob ∧ (M.msg d.at_.toNat ((M.hist d.at_.toNat).length - 1)).ref = d.oc then
    ((M.readAt (d.t - 1).toNat d.at_.toNat ((M.hist d.at_.toNat).length - 1) true).writeAt (d.t - 1).toNat d.at_.toNat d.na d.nb d.nc true, wordV (M.msg d.at_.toNat ((M.hist d.at_.toNat).length - 1)), true, 0)
  else (M.readAt (d.t - 1).toNat d.at_.toNat ((M.hist d.at_.toNat).length - 1) true, wordV (M.msg d.at_.toNat ((M.hist d.at_.toNat).length - 1)), false, 0)

theorem errOf_zero {np nv : Nat} {t a : Int} (h : errOf np nv t a = 0) : (1 ≤ t ∧ t ≤ nv) ∧ (0 ≤ a ∧ a < np) := by
  unfold errOf at h
  split at h
  · cases h
  · split at h
    · cases h
    · omega

theorem do_any (pv vv : Value) (M : Mem) (N : Nat) (d : DoV) (w : World) (D : Nat → Prop) (h : MD D w pv vv M) (G : M.Good N) (hN : N ≤ 999) (hd : d.Ok) :
    Calls Try.prog 14 #[.agg #[pv, vv], d.v] w fun e w' => ∃ pv' vv', e = .returned (.tuple #[.agg #[pv', vv'], (M.res d).2.1, .bool (M.res d).2.2.1, .int .i64 (M.res d).2.2.2]) ∧ MD (Dn D w) w' pv' vv' (M.res d).1 ∧ Below w.heap.size w w' := by
  obtain ⟨t, op, at_, oa, ob, oc, na, nb, nc, z⟩ := d
  obtain ⟨⟨p0, p1⟩, z0, z1⟩ := hd
  simp only at p0 p1 z0 z1
  unfold Mem.res DoV.v
  simp only
  have keep : ∀ {W' : World}, Below w.heap.size w W' → MD (Dn D w) W' pv vv M := fun hb => (h.imp (fun b hb => .inl hb)).below hb
  by_cases h1 : op < 1 ∨ 6 < op
  · rw [if_pos h1]
    obtain ⟨a1, a2, rfl, rfl⟩ := h.mw.slices
    refine (do_none a1 a2 _ _ t op at_ oa ob oc na nb nc z w h1).mono ?_
    rintro e w' ⟨rfl, hb⟩
    exact ⟨_, _, rfl, keep hb, hb⟩
  · rw [if_neg h1]
    by_cases h2 : errOf M.hs.length M.vs.length t at_ ≠ 0
    · rw [if_pos h2]
      obtain ⟨a1, a2, rfl, rfl⟩ := h.mw.slices
      have ho : op = 1 ∨ op = 2 ∨ op = 3 ∨ op = 4 ∨ op = 5 ∨ op = 6 := by omega
      rcases ho with rfl | rfl | rfl | rfl | rfl | rfl
      · refine (do_err1 a1 a2 _ _ t at_ oa ob oc na nb nc z w p0 p1 h2).mono ?_
        rintro e w' ⟨rfl, hb⟩
        exact ⟨_, _, rfl, keep hb, hb⟩
      · refine (do_err2 a1 a2 _ _ t at_ oa ob oc na nb nc z w p0 p1 h2).mono ?_
        rintro e w' ⟨rfl, hb⟩
        exact ⟨_, _, rfl, keep hb, hb⟩
      · refine (do_err3 a1 a2 _ _ t at_ oa ob oc na nb nc z w p0 p1 h2).mono ?_
        rintro e w' ⟨rfl, hb⟩
        exact ⟨_, _, rfl, keep hb, hb⟩
      · refine (do_err4 a1 a2 _ _ t at_ oa ob oc na nb nc z w p0 p1 h2).mono ?_
        rintro e w' ⟨rfl, hb⟩
        exact ⟨_, _, rfl, keep hb, hb⟩
      · refine (do_err5 a1 a2 _ _ t at_ oa ob oc na nb nc z w p0 p1 h2).mono ?_
        rintro e w' ⟨rfl, hb⟩
        exact ⟨_, _, rfl, keep hb, hb⟩
      · refine (do_err6 a1 a2 _ _ t at_ oa ob oc na nb nc z w p0 p1 h2).mono ?_
        rintro e w' ⟨rfl, hb⟩
        exact ⟨_, _, rfl, keep hb, hb⟩
    · rw [if_neg h2]
      obtain ⟨⟨t0, t1⟩, q0, q1⟩ := errOf_zero (by simpa using h2)
      obtain ⟨k, rfl⟩ : ∃ k : Nat, t = (k : Int) + 1 := ⟨(t - 1).toNat, by omega⟩
      obtain ⟨p, rfl⟩ : ∃ p : Nat, at_ = (p : Int) := ⟨at_.toNat, by omega⟩
      rw [show ((k : Int) + 1 - 1).toNat = k by omega, show ((p : Int)).toNat = p by omega]
      have hk : k < M.vs.length := by omega
      have hp : p < M.hs.length := by omega
      have ho : op = 1 ∨ op = 2 ∨ op = 3 ∨ op = 4 ∨ op = 5 ∨ op = 6 := by omega
      rcases ho with rfl | rfl | rfl | rfl | rfl | rfl
      · exact do_load pv vv M N k p oa ob oc na nb nc z w D h G hN hk hp z0 z1
      · exact do_acq pv vv M N k p oa ob oc na nb nc z w D h G hN hk hp z0 z1
      · exact do_store pv vv M N k p oa ob oc na nb nc z w D h G hN hk hp
      · exact do_rel pv vv M N k p oa ob oc na nb nc z w D h G hN hk hp
      · exact do_look pv vv M N k p oa ob oc na nb nc z w D h G hN hk hp
      · simp only [show ¬ ((6 : Int) = 1) by decide, show ¬ ((6 : Int) = 2) by decide, show ¬ ((6 : Int) = 3) by decide, show ¬ ((6 : Int) = 4) by decide, show ¬ ((6 : Int) = 5) by decide, if_false]
        split
        · rename_i hw
          exact do_hit pv vv M N k p oa ob oc na nb nc z w D h G hN hk hp hw
        · rename_i hw
          exact do_miss pv vv M N k p oa ob oc na nb nc z w D h G hN hk hp hw

theorem Mem.Good.res {N : Nat} {M : Mem} (h : M.Good N) (d : DoV) : (M.res d).1.Good (N + 1) ∧ (M.res d).1.hs.length = M.hs.length ∧ (M.res d).1.vs.length = M.vs.length := by
  unfold Mem.res
  split
  · exact ⟨h.mono (by omega), rfl, rfl⟩
  · split
    · exact ⟨h.mono (by omega), rfl, rfl⟩
    · rename_i _ h2
      obtain ⟨⟨t0, t1⟩, q0, q1⟩ := errOf_zero (by simpa using h2)
      have hp : d.at_.toNat < M.hs.length := by omega
      split
      · exact ⟨(h.readAt _ _ _ _).mono (by omega), rfl, by simp [Mem.readAt]⟩
      · split
        · exact ⟨(h.readAt _ _ _ _).mono (by omega), rfl, by simp [Mem.readAt]⟩
        · split
          · exact ⟨h.writeAt _ _ _ _ _ _ hp, by simp [Mem.writeAt], by simp [Mem.writeAt]⟩
          · split
            · exact ⟨h.writeAt _ _ _ _ _ _ hp, by simp [Mem.writeAt], by simp [Mem.writeAt]⟩
            · split
              · exact ⟨(h.readAt _ _ _ _).mono (by omega), rfl, by simp [Mem.readAt]⟩
              · split
                · exact ⟨(h.readAt _ _ _ _).writeAt _ _ _ _ _ _ hp, by simp [Mem.writeAt, Mem.readAt], by simp [Mem.writeAt, Mem.readAt]⟩
                · exact ⟨(h.readAt _ _ _ _).mono (by omega), rfl, by simp [Mem.readAt]⟩
end Go.Proofs.Ytbaljoehgdhhhaa
