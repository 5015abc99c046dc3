/- append onto a slice cut to its length: always a new row. -/
import Derived.Test.YtknnnjnnphdipaaRcIs
import Derived.ArgAppend
namespace Go.Proofs.Ytknnnjnnphdipaa
open Go.ChangeShapes Go.WideShapes Go.ChangeAt Go.RowKit Go.Maps
theorem run_cap3 {w : World} {B : Nat} {a : Option Addr} {n c : Nat} {L : List It} (hown : Row3 35 B w (.slice a n c) L) (hnl : L.length = n) (ty : TypeId) {x : Value} {y : It} (hx : PS w x [y]) (hn : n ≤ 1000) (hB : B ≤ w.heap.size) :
    ∃ v' w', (Builtin.append_ #[30, 30] ty #[.slice a n n, x]).run Try.prog w = .ok v' w' ∧ Row3 35 B w' v' (L ++ [y]) ∧ w.grownBy w' none := by
  subst hnl
  have hps := hown.ps
  have h0 := hown
  obtain ⟨h1, ⟨h2, h3⟩ | ⟨g, cap, cur, hv, hBg, hh, r⟩⟩ := hown
  · obtain rfl := List.length_eq_zero_iff.1 h3
    injection h2 with e1 _ e2
    subst e1
    exact run_app3 Try.underlying30 infoR ty (v := .slice none 0 0) (l := []) (Row3.nil 35 B w) hx (by simp) hB
  · injection hv with e1 _ e2
    subst e1
    obtain ⟨i, hi, hz, i1, i2⟩ := info_parts infoR
    obtain ⟨a', c', rfl, hcap, hc⟩ := hx
    rcases hc with hc | ⟨b, o, rfl, hlt, hcs⟩
    · cases hc
    obtain ⟨v', w', e1, e2, e3⟩ := run_append_arg_grows (P := Try.prog) w 30 ty 35 i _ 3 24 Try.underlying30 hi hz i1 i2 rfl (by decide) ⟨g, 0, none⟩ L.length L.length (flat3 L) (flat3_len _)
      (fun j u hu => by
        rw [addr_add, Nat.zero_add]
        have hj : j < L.length * 3 := by
          rcases Nat.lt_or_ge j (flat3 L).length with h' | h'
          · rwa [flat3_len] at h'
          · rw [List.getElem?_eq_none h'] at hu; cases hu
        exact (World.ownsRow.cellAt h0 j hj).trans hu)
      ⟨b, o, none⟩ [y].length c' (flat3 [y]) (flat3_len _) (fun j u hu => by rw [addr_add]; exact flat3_cells hcs j u hu) (by simp) (by simp [maxLen]; omega) (by simp; omega)
    refine ⟨v', w', e1, ?_, e3⟩
    unfold Row3
    rw [flat3_append, List.length_append]
    obtain ⟨k1, k2 | ⟨g2, cap2, cur2, kv, kB, kr⟩⟩ := e2
    · exact ⟨k1, .inl k2⟩
    · exact ⟨k1, .inr ⟨g2, cap2, cur2, kv, Nat.le_trans hB kB, kr⟩⟩
theorem step_cap3 (w : World) {ops : Array Oper} {o : Oper} {a : Act} {K : Act → World → Prop} {Q : Exit → Act → World → Prop} {E : Prop} (hgd : o.guard = none) (s x : Operand)
    (ho : o.op = .call { callee := .builtin .append, args := #[s, x], argTypes := #[30, 30] }) {w0 : World} {ad : Option Addr} {n c : Nat} {L : List It} (hs : a.eval s = .slice ad n n) (hb : Below w0.heap.size w0 w) (hown : Row3 35 w0.heap.size w (.slice ad n c) L) (hnl : L.length = n) {xv : Value} {y : It} (hxv : a.eval x = xv) (hx : PS w xv [y]) (hn : n ≤ 1000)
    (hK : ∀ v' w', Row3 35 w0.heap.size w' v' (L ++ [y]) → Below w.heap.size w w' → K (a.put o.dst v') w') : if Region.wanted o (yielded ops a.tmps) = true then Oper.wp Try.prog o a w K Q else E := by
  have hw : Region.wanted o (yielded ops a.tmps) = true := by simp [Region.wanted, hgd]
  rw [if_pos hw]
  obtain ⟨v', w', hrun, r1, r2⟩ := run_cap3 hown hnl o.type hx hn hb.size
  unfold Oper.wp
  simp [execOp, ho, resolve, invoke, builtin, hs, hxv, hrun, Result.andThen]
  exact hK v' w' r1 ((Below.refl _ _).grown r2 (Nat.le_refl _) (fun j hj => by cases hj))
end Go.Proofs.Ytknnnjnnphdipaa
