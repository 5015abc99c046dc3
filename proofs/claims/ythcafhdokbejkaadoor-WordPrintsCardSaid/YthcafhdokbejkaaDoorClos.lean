/- The functions that read the parts of a text form. -/
import Derived.Test.YthcafhdokbejkaaDoorNums
import Derived.OneCell
import Derived.Lib.Hide
import Derived.Deep.RegionHeld3
namespace Go.Proofs.YthcafhdokbejkaaDoor
open Go.RowKit Go.Shelf

/-- The blocks of read: the result, the word, the two numbers of the reference. -/
structure RS (w : World) (B : Nat) (v n r a b : Int) (W : World) : Prop where
  h0 : W.heap[B]? = some (.cells #[.int .i64 0, .int .u32 0, .int .u32 0] 33 (0, 0))
  h1 : W.heap[B + 1]? = some (.cells #[.int .i64 v, .int .u32 n, .int .u32 r] 33 (0, 0))
  h2 : W.heap[B + 2]? = some (.cells #[.int .i64 a] 3 (0, 0))
  h3 : W.heap[B + 3]? = some (.cells #[.int .i64 b] 3 (0, 0))
  g : Below B w W
  s : Sen W
theorem RS.l {w W : World} {B : Nat} {v n r a b : Int} (h : RS w B v n r a b W) : B + 3 < W.heap.size := lt_of_block h.h3
theorem RS.below {w W W' : World} {B : Nat} {v n r a b : Int} (h : RS w B v n r a b W) (hb : Below W.heap.size W W') : RS w B v n r a b W' :=
  ⟨(hb.block _ (by have := h.l; omega)).trans h.h0, (hb.block _ (by have := h.l; omega)).trans h.h1, (hb.block _ (by have := h.l; omega)).trans h.h2, (hb.block _ h.l).trans h.h3, h.g.trans (hb.mono (by have := h.l; omega)), h.s.below hb⟩
theorem set_three {w : World} {b : Nat} {x y z u : Value} {t : TypeId} (h : w.heap[b]? = some (.cells #[x, y, z] t (0, 0))) (i : Nat) (_hi : i < 3) : (w.setCell ⟨b, i, none⟩ u).heap[b]? = some (.cells (#[x, y, z].setIfInBounds i u) t (0, 0)) := by
  have hlt := lt_of_block h
  have h' : w.heap[b] = .cells #[x, y, z] t (0, 0) := by simpa [Array.getElem?_eq_getElem hlt] using h
  show (w.heap.modify b _)[b]? = _
  rw [Array.getElem?_eq_getElem (by simpa using hlt), Array.getElem_modify_self, h']
  rfl
theorem three_cells {w : World} {b : Nat} {x y z : Value} {t : TypeId} (h : w.heap[b]? = some (.cells #[x, y, z] t (0, 0))) :
    (w.cell? ⟨b, 0, none⟩ = some x ∧ w.cell? ⟨b, 1, none⟩ = some y ∧ w.cell? ⟨b, 2, none⟩ = some z) ∧ (w.frozen? ⟨b, 0, none⟩ = false ∧ w.frozen? ⟨b, 1, none⟩ = false ∧ w.frozen? ⟨b, 2, none⟩ = false) := by
  simp [World.cell?, World.frozen?, h]
theorem Sen.set {W : World} (h : Sen W) {p : Addr} (hp : 3 ≤ p.block) (u : Value) : Sen (W.setCell p u) := by
  obtain ⟨h1, ⟨e, h2, h3⟩, e', h4, h5⟩ := h
  have hh := ((Below.refl 3 W).setCell hp u)
  exact ⟨by simpa [World.setCell] using h1, ⟨e, (hh.cell (p := ⟨1, 0, none⟩) (by simp)).trans h2, h3⟩, e', (hh.cell (p := ⟨2, 0, none⟩) (by simp)).trans h4, h5⟩
theorem RS.set0 {w W : World} {B : Nat} {v n r a b : Int} (h : RS w B v n r a b W) (hB : 3 ≤ B) (x : Int) : RS w B x n r a b (W.setCell ⟨B + 1, 0, none⟩ (.int .i64 x)) :=
  ⟨(Below.heap_setCell _ _ _ _ (by simp)).trans h.h0, set_three h.h1 0 (by omega), (Below.heap_setCell _ _ _ _ (by simp)).trans h.h2, (Below.heap_setCell _ _ _ _ (by simp)).trans h.h3, h.g.setCell (by simp) _, h.s.set (by simp; omega) _⟩
theorem RS.set1 {w W : World} {B : Nat} {v n r a b : Int} (h : RS w B v n r a b W) (hB : 3 ≤ B) (x : Int) : RS w B v x r a b (W.setCell ⟨B + 1, 1, none⟩ (.int .u32 x)) :=
  ⟨(Below.heap_setCell _ _ _ _ (by simp)).trans h.h0, set_three h.h1 1 (by omega), (Below.heap_setCell _ _ _ _ (by simp)).trans h.h2, (Below.heap_setCell _ _ _ _ (by simp)).trans h.h3, h.g.setCell (by simp) _, h.s.set (by simp; omega) _⟩
theorem RS.set2 {w W : World} {B : Nat} {v n r a b : Int} (h : RS w B v n r a b W) (hB : 3 ≤ B) (x : Int) : RS w B v n x a b (W.setCell ⟨B + 1, 2, none⟩ (.int .u32 x)) :=
  ⟨(Below.heap_setCell _ _ _ _ (by simp)).trans h.h0, set_three h.h1 2 (by omega), (Below.heap_setCell _ _ _ _ (by simp)).trans h.h2, (Below.heap_setCell _ _ _ _ (by simp)).trans h.h3, h.g.setCell (by simp) _, h.s.set (by simp; omega) _⟩
theorem RS.seta {w W : World} {B : Nat} {v n r a b : Int} (h : RS w B v n r a b W) (hB : 3 ≤ B) (x : Int) : RS w B v n r x b (W.setCell ⟨B + 2, 0, none⟩ (.int .i64 x)) :=
  ⟨(Below.heap_setCell _ _ _ _ (by simp)).trans h.h0, (Below.heap_setCell _ _ _ _ (by simp)).trans h.h1, one_setCell h.h2, (Below.heap_setCell _ _ _ _ (by simp)).trans h.h3, h.g.setCell (by simp) _, h.s.set (by simp; omega) _⟩
theorem RS.setb {w W : World} {B : Nat} {v n r a b : Int} (h : RS w B v n r a b W) (_hB : 3 ≤ B) (x : Int) : RS w B v n r a x (W.setCell ⟨B + 3, 0, none⟩ (.int .i64 x)) :=
  ⟨(Below.heap_setCell _ _ _ _ (by simp)).trans h.h0, (Below.heap_setCell _ _ _ _ (by simp)).trans h.h1, (Below.heap_setCell _ _ _ _ (by simp)).trans h.h2, one_setCell h.h3, h.g.setCell (by simp) _, h.s.set (by simp) _⟩

/-- How a closure of read ends: whether the number could be read, and the number. -/
def Got (ok : Option Int) (lo hi : Int) (post : Int → World → Prop) (e : Ending) (W' : World) : Prop :=
  ∃ x good, e = .returned (.bool good) ∧ (lo ≤ x ∧ x ≤ hi) ∧ ok = (if good = true then some x else none) ∧ post x W'

set_option maxHeartbeats 800000 in
theorem clo30 (s : ByteArray) {w W : World} {B : Nat} {v n r a b : Int} (hs : s.size ≤ 1000) (hB : 3 ≤ B) (R : RS w B v n r a b W) :
    Calls Tryd.prog 30 #[.string s, .pointer (some ⟨B + 1, 0, none⟩)] W (Got (okOf (Lib.parseIntB 64 s.data.toList)) (-9223372036854775808) 9223372036854775807 fun x => RS w B x n r a b) := by
  have RR := Lib.hid R
  clear R
  go_enter Tryd.func30, Tryd.ntmps30
  go_wp2_with fail
  refine (pint64 s _ (by omega) RR.out.s).mono ?_
  rintro e W1 ⟨⟨x, ev, rfl, hx, hev⟩, hb⟩
  have R1 := Lib.hid (RR.out.below hb)
  have k1 := (three_cells R1.out.h1).1.1
  have k2 := (three_cells R1.out.h1).2.1
  have R2 := Lib.hid (R1.out.set0 hB x)
  clear hb RR
  rcases hev with ⟨rfl, hok⟩ | ⟨⟨t, p, rfl⟩, hok⟩
  · have HK := Lib.hid hok
    clear hok
    go_wp2
    go_ret
    exact ⟨x, true, rfl, hx, HK.out, R2.out⟩
  · have HK := Lib.hid hok
    clear hok
    go_wp2
    go_ret
    exact ⟨x, false, rfl, hx, HK.out, R2.out⟩
set_option maxHeartbeats 800000 in
theorem clo32 (s : ByteArray) {w W : World} {B : Nat} {v n r a b : Int} (hs : s.size ≤ 1000) (hB : 3 ≤ B) (R : RS w B v n r a b W) :
    Calls Tryd.prog 32 #[.string s, .pointer (some ⟨B + 1, 0, none⟩)] W (Got (natOf (okOf (Lib.parseUintB 32 s.data.toList))) 0 4294967295 fun x => RS w B v x r a b) := by
  have RR := Lib.hid R
  clear R
  go_enter Tryd.func32, Tryd.ntmps32
  go_wp2_with fail
  refine (puint32 s _ (by omega) RR.out.s).mono ?_
  rintro e W1 ⟨⟨x, ev, rfl, hx, hev⟩, hb⟩
  have R1 := Lib.hid (RR.out.below hb)
  have k1 := (three_cells R1.out.h1).1.2.1
  have k2 := (three_cells R1.out.h1).2.2.1
  have R2 := Lib.hid (R1.out.set1 hB x)
  clear hb RR
  have hcv : IntKind.u32.wrap x = x := by rw [IntKind.wrap_u32]; omega
  rcases hev with ⟨rfl, hok⟩ | ⟨⟨t, p, rfl⟩, hok⟩
  · have HK := Lib.hid hok
    clear hok
    go_wp2
    go_ret
    exact ⟨x, true, rfl, hx, HK.out, R2.out⟩
  · have HK := Lib.hid hok
    clear hok
    go_wp2
    go_ret
    exact ⟨x, false, rfl, hx, HK.out, R2.out⟩
set_option maxHeartbeats 800000 in
theorem clo43a (s : ByteArray) {w W : World} {B N : Nat} {v n r a b : Int} (hs : s.size ≤ 1000) (hB : 3 ≤ B) (R : RS w B v n r a b W) (hN : W.heap[N]? = some (.cells #[.pointer (some ⟨B + 2, 0, none⟩)] 67 (0, 0))) :
    Calls Tryd.prog 43 #[.string s, .pointer (some ⟨N, 0, none⟩)] W (Got (okOf (Lib.parseIntB 32 s.data.toList)) (-2147483648) 2147483647 fun x => RS w B v n r x b) := by
  have RR := Lib.hid R
  clear R
  go_enter Tryd.func43, Tryd.ntmps43
  go_wp2_with fail
  refine (pint32 s _ (by omega) RR.out.s).mono ?_
  rintro e W1 ⟨⟨x, ev, rfl, hx, hev⟩, hb⟩
  have R1 := Lib.hid (RR.out.below hb)
  have k1 := cell_of_one R1.out.h2
  have k2 := free_of_one R1.out.h2
  have R2 := Lib.hid (R1.out.seta hB x)
  have k3 := cell_of_one ((hb.block N (lt_of_block hN)).trans hN)
  clear hb RR hN
  rcases hev with ⟨rfl, hok⟩ | ⟨⟨t, p, rfl⟩, hok⟩
  · have HK := Lib.hid hok
    clear hok
    go_wp2
    go_ret
    exact ⟨x, true, rfl, hx, HK.out, R2.out⟩
  · have HK := Lib.hid hok
    clear hok
    go_wp2
    go_ret
    exact ⟨x, false, rfl, hx, HK.out, R2.out⟩
set_option maxHeartbeats 800000 in
theorem clo43b (s : ByteArray) {w W : World} {B N : Nat} {v n r a b : Int} (hs : s.size ≤ 1000) (hB : 3 ≤ B) (R : RS w B v n r a b W) (hN : W.heap[N]? = some (.cells #[.pointer (some ⟨B + 3, 0, none⟩)] 67 (0, 0))) :
    Calls Tryd.prog 43 #[.string s, .pointer (some ⟨N, 0, none⟩)] W (Got (okOf (Lib.parseIntB 32 s.data.toList)) (-2147483648) 2147483647 fun x => RS w B v n r a x) := by
  have RR := Lib.hid R
  clear R
  go_enter Tryd.func43, Tryd.ntmps43
  go_wp2_with fail
  refine (pint32 s _ (by omega) RR.out.s).mono ?_
  rintro e W1 ⟨⟨x, ev, rfl, hx, hev⟩, hb⟩
  have R1 := Lib.hid (RR.out.below hb)
  have k1 := cell_of_one R1.out.h3
  have k2 := free_of_one R1.out.h3
  have R2 := Lib.hid (R1.out.setb hB x)
  have k3 := cell_of_one ((hb.block N (lt_of_block hN)).trans hN)
  clear hb RR hN
  rcases hev with ⟨rfl, hok⟩ | ⟨⟨t, p, rfl⟩, hok⟩
  · have HK := Lib.hid hok
    clear hok
    go_wp2
    go_ret
    exact ⟨x, true, rfl, hx, HK.out, R2.out⟩
  · have HK := Lib.hid hok
    clear hok
    go_wp2
    go_ret
    exact ⟨x, false, rfl, hx, HK.out, R2.out⟩
end Go.Proofs.YthcafhdokbejkaaDoor
