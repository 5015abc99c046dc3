/- The set of distinct numbers as a map: distinct of package reclaim; sums over lists without repetition. -/
import Derived.Test.YtknnnjnnphdipaaRcProt
import Derived.Maps.Views
import Derived.Maps.Ext
import Derived.Maps.RangeWalk
namespace Go.Proofs.Ytknnnjnnphdipaa
open Go.ChangeShapes Go.WideShapes Go.ChangeAt Go.RowKit Go.Maps
def inL (l : List Int) (x : Int) : Bool := l.any (· == x)
theorem inL_iff (l : List Int) (x : Int) : inL l x = true ↔ x ∈ l := by
  unfold inL; simp
theorem inL_app (S : List Int) (x y : Int) : inL (S ++ [x]) y = (inL S y || x == y) := by simp [inL]
theorem lawE : Keyed Try.prog 2 := int_keyed Try.underlying2
theorem zeroB (w : World) : (zeroValue 4).run Try.prog w = .ok (.bool false) w := by kernel_rfl
theorem ne_key {a b : Int} (h : a ≠ b) : (Lit.int .i64 a) ≠ Lit.int .i64 b := fun e => h (by injection e)
theorem isKey (l : Int) : WideAt.IsKeyLit (.int .i64 l) := by trivial
theorem key_int (p : Int) (h : I64 p) : keyOf Try.prog 2 (.int .i64 p) = some (.int .i64 p) := keyOf_int_mk Try.underlying2 (WalkArith.wf_i64 (by unfold I64 at h; omega))
/-- The map in block b says true of the members of S, at most n of them. -/
def MapS (w : World) (b n : Nat) (S : List Int) : Prop :=
  ∃ D, w.ownsMap Try.prog 2 (plainElem (H := Unit) Try.prog 4) b n D ∧ IsMap D ∧ ∀ x, has D (.int .i64 x) = inL S x
theorem MapS.made (w : World) : MapS (w.alloc (.map #[] 0)) w.heap.size 0 [] := ⟨_, World.ownsMap_made w Try.prog 2 _, ⟨[], rfl⟩, fun _ => rfl⟩
theorem owns_below {w w1 : World} {b n : Nat} {D : DataW Unit} {kt : TypeId} {R : Value → Option (DataW Unit × List MemPlace)} (h : w.ownsMap Try.prog kt R b n D) (hb : Below w.heap.size w w1) : w1.ownsMap Try.prog kt R b n D := by
  have hlt := h.lt
  obtain ⟨es, clock, hk, F, hs, hD⟩ := h
  exact ⟨es, clock, (hb.block b hlt).trans hk, F, hs, hD⟩
theorem MapS.lt {w : World} {b n : Nat} {S : List Int} (h : MapS w b n S) : b < w.heap.size := by
  obtain ⟨D, h1, _⟩ := h; exact h1.lt
theorem MapS.below {w w1 : World} {b n : Nat} {S : List Int} (h : MapS w b n S) (hb : Below w.heap.size w w1) : MapS w1 b n S := by
  obtain ⟨D, h1, h2, h3⟩ := h
  exact ⟨D, owns_below h1 hb, h2, h3⟩
theorem wpList_mark (w : World) {ops : Array Oper} {rest : List Oper} {o : Oper} {a : Act} {Q : Exit → Act → World → Prop}
    (hg : o.guard = none) (m x v : Operand) (hop : o.op = Op.mapUpdate 58 m x v) (b n : Nat) (S : List Int) (hm : a.eval m = .map (some b)) (hown : MapS w b n S) (hn : n < 100000) (y : Int) (hx : a.eval x = .int .i64 y) (hv : a.eval v = .bool true) (hy : I64 y)
    (hK : ∀ w', MapS w' b (n + 1) (S ++ [y]) → w.grownBy w' (some b) → wpList Try.prog ops Q rest (a.put o.dst undef) w') : wpList Try.prog ops Q (o :: rest) a w := by
  obtain ⟨D, h1, h2, h3⟩ := hown
  refine wpList_mapUpdate_own w hg m x v 58 hop 2 4 lawE Try.underlying58 _ b n D hm h1 (by unfold maxLen; omega) _ _ _ hx hv (key_int y hy) _ [] (plainElem_bool Try.underlying4 true) fun w' g1 g2 => hK w' ⟨_, g1, ?_, fun z => ?_⟩ g2
  · obtain ⟨es, rfl⟩ := h2; exact ⟨_, rfl⟩
  · rw [inL_app]
    by_cases e : z = y
    · subst e
      rw [has_put_same h2 (isKey _)]; simp
    · rw [has_put_other (ne_key e), h3 z]
      have : (y == z) = false := by rw [beq_eq_false_iff_ne]; exact fun h => e h.symm
      rw [this, Bool.or_false]
theorem below_mark {B : Nat} {w wr w1 : World} {b : Nat} (hnx : Below B w wr) (hB : B ≤ wr.heap.size) (hb : B ≤ b) (hg : wr.grownBy w1 (some b)) : Below B w w1 :=
  hnx.grown hg hB (fun j hj => by cases hj; exact hb)
theorem run_mkmap (w : World) : (Instr.makeMap 58 none).run Try.prog w = .ok (.map (some w.heap.size)) (w.alloc (.map #[] 0)) := by
  simp [Instr.makeMap]
def Dst (w : World) (A : List Int) (e : Ending) (w' : World) : Prop := ∃ b, e = .returned (.map (some b)) ∧ MapS w' b A.length A ∧ w.heap.size ≤ b ∧ Below w.heap.size w w'
set_option maxRecDepth 100000 in
set_option maxHeartbeats 1600000 in
theorem distinct_any (v : Value) (A : List Int) (w : World) (hv : IS w v A) (hl : A.length ≤ 1000) (ho : OkL A) : Calls Try.prog 25 #[v] w (Dst w A) := by
  have HV := Lib.hid hv
  have OA := Lib.hid ho
  obtain ⟨a, cap, rfl⟩ := hv.form
  clear hv ho
  obtain ⟨m, hm⟩ : ∃ n, A.length = n := ⟨_, rfl⟩
  rw [hm] at hl HV ⊢
  have HM := Lib.hid hm
  clear hm
  have mk := run_mkmap
  go_enter Try.func25, Try.ntmps25
  go_wp2_with fail
  clear mk
  obtain ⟨W, hW⟩ : ∃ W, w.alloc (.map #[] 0) = W := ⟨_, rfl⟩
  obtain ⟨q, hq⟩ : ∃ q, w.heap.size = q := ⟨_, rfl⟩
  have M0 : Hid (MapS W q 0 []) := Lib.hid (by rw [← hW, ← hq]; exact MapS.made w)
  have BW : Hid (Below w.heap.size w W) := Lib.hid (by rw [← hW]; exact below1 _ _)
  have HQ := Lib.hid hq
  rw [hW, hq]
  clear hW hq
  go_loopw [9] (fun iv wr => ∃ k : Nat, k ≤ m ∧ iv = .int .i64 k ∧ MapS wr q k (A.take k) ∧ Below w.heap.size w wr) (fun iv _ => m - (intOf iv).toNat)
  case atStart => exact ⟨0, by omega, rfl, M0.out, BW.out⟩
  case round =>
    obtain ⟨k, hk, rfl, hm, hb⟩ := hrel
    have MS := Lib.hid hm
    have BB := Lib.hid hb
    have hsz := hb.size
    clear hb hm
    by_cases hlt : k < m
    · obtain ⟨b, off, rfl, hbl, hc⟩ := HV.out.addr hlt
      have c0 := hc k hlt
      have HT := Lib.hid (take_succ_getDI A (k := k) (by rw [HM.out]; exact hlt))
      have hx6 := OA.out _ (getD_mem (L := A) (k := k) (by rw [HM.out]; exact hlt))
      rw [← BB.out.cell (p := ⟨b, _, none⟩) hbl] at c0
      clear hc
      obtain ⟨x, hx⟩ : ∃ y, A.getD k 0 = y := ⟨_, rfl⟩
      rw [hx] at c0 HT hx6
      clear hx
      go_wp2_with (first | (at_mapUpdate; refine wpList_mark _ rfl _ _ _ rfl q k _ rfl MS.out (by omega) x rfl rfl hx6 ?_; intro w1 m1 g1; have M1 := Lib.hid m1; have B1 := Lib.hid (below_mark BB.out hsz (Nat.le_of_eq HQ.out) g1); clear m1 g1) | fail)
      go_roundw
      case rel => exact ⟨k + 1, by omega, by go_num, by rw [HT.out]; exact M1.out, B1.out⟩
      case measure => simp [intOf]; omega
    · obtain rfl : k = m := by omega
      have MT : Hid (MapS wr q A.length A) := Lib.hid (by have e := MS.out; rw [List.take_of_length_le (by rw [HM.out]; exact Nat.le_refl _)] at e; rw [HM.out]; exact e)
      clear MS
      go_wp2_with fail
      go_ret
      exact ⟨q, rfl, MT.out, Nat.le_of_eq HQ.out, BB.out⟩
/-- A sum over a list. -/
def sumF (f : Int → Nat) (l : List Int) : Nat := (l.map f).sum
theorem sumF_app (f : Int → Nat) (a b : List Int) : sumF f (a ++ b) = sumF f a + sumF f b := by simp [sumF]
theorem sumF_eq (f : Int → Nat) : ∀ (V U : List Int), V.Nodup → U.Nodup → (∀ x, x ∈ V ↔ x ∈ U) → sumF f V = sumF f U
  | [], U, _, _, h => by
    cases U with
    | nil => rfl
    | cons a r => have := (h a).2 (by simp); cases this
  | a :: V, U, hv, hu, h => by
    obtain ⟨s, t, rfl⟩ := List.append_of_mem ((h a).1 (by simp))
    have hv2 := List.nodup_cons.1 hv
    have hp : (s ++ a :: t).Perm (a :: (s ++ t)) := List.perm_middle
    have hu2 := List.nodup_cons.1 (hp.nodup_iff.1 hu)
    have ih := sumF_eq f V (s ++ t) hv2.2 hu2.2 (fun x => by
      constructor
      · intro hx
        rcases List.mem_cons.1 (hp.mem_iff.1 ((h x).1 (by simp [hx]))) with e | e
        · subst e; exact absurd hx hv2.1
        · exact e
      · intro hx
        rcases List.mem_cons.1 ((h x).2 (hp.mem_iff.2 (by simp [hx]))) with e | e
        · subst e; exact absurd hx hu2.1
        · exact e)
    have e2 : sumF f (s ++ a :: t) = f a + sumF f (s ++ t) := by rw [sumF_app, sumF_app]; simp [sumF]; omega
    rw [e2, ← ih]
    simp [sumF]
theorem sumF_le (f : Int → Nat) (l : List Int) (c : Nat) (h : ∀ x, f x ≤ c) : sumF f l ≤ l.length * c := by
  induction l with
  | nil => simp [sumF]
  | cons a r ih =>
    have e : sumF f (a :: r) = f a + sumF f r := by simp [sumF]
    rw [e, List.length_cons, Nat.succ_mul]
    have := h a
    omega
end Go.Proofs.Ytknnnjnnphdipaa
