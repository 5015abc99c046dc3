/- The reference's New. -/
import Derived.Test.YtmophafgmimhcaaMdRef
import Derived.Deep.RegionLaw
namespace Go.Proofs.Ytmophafgmimhcaa
open Go.ChangeShapes Go.WideShapes Go.ChangeAt Go.RowKit Go.Maps
variable {α : Type} {E : Enc α}
theorem step_appK [Inhabited α] {P : Program} {st e : TypeId} {z : Value} {bytes : Nat} (hst : P.underlying st = some (.slice e)) (hin : (P.info? e).map (fun i => (i.zero, i.size, i.bytes)) = some (some z, E.k, bytes)) (hz : z.cells.size = E.k) (hbt : bytes ≤ 4096) (w : World) {ops : Array Oper} {o : Oper} {a : Act} {K : Act → World → Prop} {Q : Exit → Act → World → Prop} {F : Prop} (hgd : o.guard = none) (s x : Operand)
    (ho : o.op = .call { callee := .builtin .append, args := #[s, x], argTypes := #[st, st] }) {w0 : World} {v : Value} {l : List α} (hs : a.eval s = v) (hb : Below w0.heap.size w0 w) (hown : RowK E e w0.heap.size w v l) {xv : Value} {ss : List α} (hxv : a.eval x = xv) (hx : SK E w xv ss) (hn : l.length + ss.length ≤ 1000000)
    (hK : ∀ v' w', RowK E e w0.heap.size w' v' (l ++ ss) → Below w0.heap.size w0 w' → w.grownBy w' v.ownBlock → K (a.put o.dst v') w') : if Region.wanted o (yielded ops a.tmps) = true then Oper.wp P o a w K Q else F := by
  have hw : Region.wanted o (yielded ops a.tmps) = true := by simp [Region.wanted, hgd]
  rw [if_pos hw]
  obtain ⟨v', w', hrun, r1, r2⟩ := run_appK hst hin hz hbt o.type hown hx hn hb.size
  unfold Oper.wp
  simp [execOp, ho, resolve, invoke, builtin, hs, hxv, hrun, Result.andThen]
  exact hK v' w' r1 (below_appK hb hb.size hown r2) r2
theorem bare_snoc (M : List Wd) {k : Nat} (h : k < M.length) : bare (M.take (k + 1)) = bare (M.take k) ++ [bare1 M[k]!] := by
  unfold bare
  rw [take_snoc M h, List.map_append]; rfl
theorem bare_len (M : List Wd) : (bare M).length = M.length := by unfold bare; rw [List.length_map]
set_option maxRecDepth 100000 in
set_option maxHeartbeats 1600000 in
theorem rnew_any (v : Value) (L : List Wd) (w : World) (h : WS w v L) (hl : L.length ≤ 1000) : Calls Try.prog 11 #[v] w fun e w' => ∃ u, e = .returned u ∧ WS w' u (bare L) ∧ Below w.heap.size w w' := by
  have HV := Lib.hid h
  obtain ⟨a1, cp, rfl, hcap⟩ := h.form
  clear h
  obtain ⟨n, hn⟩ : ∃ n, L.length = n := ⟨_, rfl⟩
  rw [hn] at HV hl hcap ⊢
  have HN := Lib.hid hn
  clear hn
  go_enter Try.func11, Try.ntmps11
  go_wp2_with fail
  go_loopw [3, 4] (fun lv iv wr => ∃ k : Nat, k ≤ n ∧ iv = .int .i64 k ∧ RowK wdE 43 w.heap.size wr lv (bare (L.take k)) ∧ Below w.heap.size w wr) (fun _ iv _ => n - (intOf iv).toNat)
  case atStart => exact ⟨0, by omega, rfl, RowK.nil _ _ _, Below.refl _ _⟩
  case round =>
    obtain ⟨k, hk, rfl, hr, hb⟩ := hrel
    have BB := Lib.hid hb
    have R := Lib.hid hr
    clear hb hr
    by_cases hlt : k < n
    · obtain ⟨b, off, rfl, hbl, hln, hc⟩ := HV.out.addr hlt
      obtain ⟨c0, c1, c2⟩ := wd_cells hc (by rw [hln]; exact hlt)
      rw [← BB.out.cell (p := ⟨b, _, none⟩) hbl] at c0 c1
      have BS := Lib.hid (bare_snoc L (k := k) (by rw [HN.out]; exact hlt))
      have BL := Lib.hid (bare_len (L.take k))
      rw [List.length_take, HN.out] at BL
      unfold bare1 at BS
      clear hc hln c2
      obtain ⟨y, hy⟩ : ∃ y, L[k]! = y := ⟨_, rfl⟩
      rw [hy] at c0 c1 BS
      clear hy
      obtain ⟨y0, y1, y2⟩ := y
      simp only at c0 c1 BS
      obtain ⟨U, hU⟩ : ∃ U, bare (L.take k) = U := ⟨_, rfl⟩
      rw [hU] at BS R BL
      clear hU
      have hul : U.length ≤ 1000 := by rw [BL.out]; omega
      obtain ⟨la, lc, e6, _⟩ := R.out.form
      obtain ⟨ul, hul2⟩ : ∃ z, U.length = z := ⟨_, rfl⟩
      rw [hul2] at e6 hul
      subst e6
      have HUL := Lib.hid hul2
      clear hul2
      go_wp2
      have BD := Lib.hid (BB.out.drew)
      have RD := Lib.hid (R.out.below ((Below.refl _ _).drew))
      have hlw := BB.out.size
      go_region_law (refine step_appK Try.underlying22 infoW rfl (by decide) _ rfl (.tmp 11) (.tmp 23) rfl rfl (BD.out.alloc (by simpa using hlw) _) (RD.out.below (below1 _ _)) rfl (SK.ofBox (Box.new _ _ 43 rfl) (L := [(y0, y1, 0)]) rfl rfl (Nat.le_refl _)) (by rw [HUL.out]; simp; omega) ?_; intro v7 w7 r7 b7 g7; have R7 := Lib.hid r7; have B7 := Lib.hid b7; clear r7 b7 g7)
      all_goals
        go_wp2
        exact ⟨⟨k + 1, by omega, by go_num, by rw [BS.out]; exact R7.out, B7.out⟩, by simp [intOf]; omega⟩
    · obtain rfl : k = n := by omega
      rw [List.take_of_length_le (by rw [HN.out]; exact Nat.le_refl _)] at R
      obtain ⟨la, lc, rfl, _⟩ := R.out.form
      go_wp2
      go_ret
      exact ⟨_, rfl, R.out.sk, BB.out⟩
end Go.Proofs.Ytmophafgmimhcaa
