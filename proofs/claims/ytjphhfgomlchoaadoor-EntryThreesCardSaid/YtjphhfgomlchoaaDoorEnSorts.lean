/- Sort of entries, at fewer than 20 of them. -/
import Derived.Test.YtjphhfgomlchoaaDoorEnSort
namespace Go.Proofs.YtjphhfgomlchoaaDoor
open Go.ChangeShapes Go.WideShapes Go.ChangeAt Go.RowKit Go.Maps
theorem size_inner {α : Type} [Inhabited α] (lt : α → α → Bool) (a : Nat) : ∀ (j : Nat) (d : Array α), (Go.Sort.insInner lt a j d).size = d.size
  | 0, _ => rfl
  | j + 1, d => by
    unfold Go.Sort.insInner
    split
    · rw [size_inner lt a j, Go.Sort.size_swp]
    · rfl
theorem size_outer {α : Type} [Inhabited α] (lt : α → α → Bool) (a b : Nat) : ∀ (m i : Nat) (d : Array α), b - i ≤ m → (Go.Sort.insOuter lt a b i d).size = d.size := by
  intro m
  induction m with
  | zero =>
    intro i d h
    rw [Go.Sort.insOuter, if_neg (by omega)]
  | succ m ih =>
    intro i d h
    by_cases hi : i < b
    · rw [Go.Sort.insOuter, if_pos hi, ih (i + 1) _ (by omega), size_inner]
    · rw [Go.Sort.insOuter, if_neg hi]
theorem insS_len (L : List En) : (insS L).length = L.length := by
  unfold insS
  rw [Array.length_toList]
  unfold Go.Sort.insertionSort
  rw [size_outer _ _ _ L.length _ _ (by omega)]
  simp
set_option maxRecDepth 100000 in
set_option maxHeartbeats 1600000 in
theorem stable_small (g n c : Nat) (L : List En) (B : Nat) (w : World) (h : RowK enE 48 B w (.slice (some ⟨g, 0, none⟩) n c) L) (hl : n < 20) (hn : L.length = n) : Calls Tryd.prog 44 #[.slice (some ⟨g, 0, none⟩) n c, .int .i64 n, .func (.func 30) #[] #[]] w fun e w' => e = .returned (.tuple #[]) ∧ RowK enE 48 B w' (.slice (some ⟨g, 0, none⟩) n c) (insS L) ∧ w.grownBy w' (some g) := by
  have IN := Lib.hid (insertion_any g n c L B w h (by omega))
  have SO := Lib.hid (fun m os => rowK_sorted (E := enE) (m := m) (os := os) h (insS_len L))
  have hlt : ¬ (20 : Int) ≤ n := by omega
  have hlt2 : ¬ (20 : Int) < n := by omega
  have hd1 : decide ((20 : Int) ≤ n) = false := decide_eq_false hlt
  have hd2 : decide ((20 : Int) < n) = false := decide_eq_false hlt2
  clear h hl hn
  go_enter Tryd.func44, Tryd.ntmps44
  go_wp2_with fail
  go_loopw [7, 8] (fun sa sb wr => sa = .int .i64 0 ∧ sb = .int .i64 20 ∧ wr = w) (fun _ _ _ => 0)
  case atStart => exact ⟨rfl, rfl, rfl⟩
  case round =>
    obtain ⟨rfl, rfl, rfl⟩ := hrel
    go_wp2_with fail
    refine IN.out.mono ?_
    rintro e w1 ⟨rfl, m, os, rfl⟩
    have S1 := Lib.hid (SO.out m os)
    have hw : insS L = (Go.Sort.insertionSort (ltOf cmpE) L.toArray 0 L.length).toList := rfl
    rw [hw, Array.toArray_toList] at S1
    clear IN SO
    generalize sortWorldK enE.enc enE.k wr g 0 m (Go.Sort.insertionSort (ltOf cmpE) L.toArray 0 L.length) os = w2 at *
    go_wp2_with fail
    go_loopw [6, 7, 8, 9] (fun s6 _ _ _ wr2 => s6 = .int .i64 20 ∧ wr2 = w2) (fun _ _ _ _ _ => 0)
    case atStart => exact ⟨rfl, rfl⟩
    case round =>
      obtain ⟨rfl, rfl⟩ := hrel
      go_wp2_with fail
      go_end0
      exact ⟨rfl, S1.out⟩
set_option maxRecDepth 100000 in
theorem stableFunc_small (g n c : Nat) (L : List En) (B : Nat) (w : World) (h : RowK enE 48 B w (.slice (some ⟨g, 0, none⟩) n c) L) (hl : n < 20) (hn : L.length = n) : Calls Tryd.prog 29 #[.slice (some ⟨g, 0, none⟩) n c, .func (.func 30) #[] #[]] w fun e w' => e = .returned (.tuple #[]) ∧ RowK enE 48 B w' (.slice (some ⟨g, 0, none⟩) n c) (insS L) ∧ w.grownBy w' (some g) := by
  have ST := Lib.hid (stable_small g n c L B w h hl hn)
  clear h hl hn
  go_enter Tryd.func29, Tryd.ntmps29
  go_wp2_with fail
  refine ST.out.mono ?_
  rintro e w1 ⟨rfl, hr⟩
  have R := Lib.hid hr
  clear hr
  go_wp2_with fail
  go_end0
  exact ⟨rfl, R.out⟩
set_option maxRecDepth 100000 in
theorem insertion_zero (a : Option Addr) (c : Nat) (w : World) : Calls Tryd.prog 56 #[.slice a 0 c, .int .i64 0, .int .i64 (0 : Nat), .func (.func 30) #[] #[]] w fun e w' => e = .returned (.tuple #[]) ∧ w' = w := by
  go_enter Tryd.func56, Tryd.ntmps56
  go_wp2_with fail
  go_loopw [8] (fun s8 wr => s8 = .int .i64 1 ∧ wr = w) (fun _ _ => 0)
  case atStart => exact ⟨rfl, rfl⟩
  case round =>
    obtain ⟨rfl, rfl⟩ := hrel
    go_wp2_with fail
    go_end0
    exact ⟨rfl, rfl⟩
set_option maxRecDepth 100000 in
set_option maxHeartbeats 1600000 in
theorem stable_zero (a : Option Addr) (c : Nat) (w : World) : Calls Tryd.prog 44 #[.slice a 0 c, .int .i64 (0 : Nat), .func (.func 30) #[] #[]] w fun e w' => e = .returned (.tuple #[]) ∧ w' = w := by
  have IN := Lib.hid (insertion_zero a c)
  go_enter Tryd.func44, Tryd.ntmps44
  go_wp2_with fail
  go_loopw [7, 8] (fun sa sb wr => sa = .int .i64 0 ∧ sb = .int .i64 20 ∧ wr = w) (fun _ _ _ => 0)
  case atStart => exact ⟨rfl, rfl, rfl⟩
  case round =>
    obtain ⟨rfl, rfl, rfl⟩ := hrel
    go_wp2_with fail
    refine (IN.out _).mono ?_
    rintro e w1 ⟨rfl, rfl⟩
    go_wp2_with fail
    obtain ⟨w2, hw2⟩ : ∃ z, z = w1 := ⟨_, rfl⟩
    go_loopw [6, 7, 8, 9] (fun s6 _ _ _ wr2 => s6 = .int .i64 20 ∧ wr2 = w2) (fun _ _ _ _ _ => 0)
    case atStart => exact ⟨rfl, hw2.symm⟩
    case round =>
      obtain ⟨rfl, rfl⟩ := hrel
      go_wp2_with fail
      go_end0
      exact ⟨rfl, rfl⟩
set_option maxRecDepth 100000 in
theorem stableFunc_zero (a : Option Addr) (c : Nat) (w : World) : Calls Tryd.prog 29 #[.slice a 0 c, .func (.func 30) #[] #[]] w fun e w' => e = .returned (.tuple #[]) ∧ w' = w := by
  have ST := Lib.hid (stable_zero a c)
  go_enter Tryd.func29, Tryd.ntmps29
  go_wp2_with fail
  refine (ST.out w).mono ?_
  rintro e w1 ⟨rfl, rfl⟩
  go_wp2_with fail
  go_end0
  exact ⟨rfl, rfl⟩
theorem insS_nil : insS [] = [] := by decide +kernel
set_option maxRecDepth 100000 in
set_option maxHeartbeats 1600000 in
theorem sort_small (v : Value) (L : List En) (w : World) (h : ES w v L) (hl : L.length < 20) : Calls Tryd.prog 13 #[v] w fun e w' => ∃ u, e = .returned u ∧ RowK enE 48 w.heap.size w' u (insS L) ∧ Below w.heap.size w w' := by
  have CL := Lib.hid (cloneE_any v L w h (by omega))
  obtain ⟨a1, c1, rfl, hcap⟩ := h.form
  clear h
  go_enter Tryd.func13, Tryd.ntmps13
  go_wp2_with fail
  refine CL.out.mono ?_
  rintro e w1 ⟨u, rfl, hr, hb⟩
  obtain ⟨ua, uc, rfl, _⟩ := hr.form
  have R := Lib.hid hr
  have BB := Lib.hid hb
  clear hr hb CL
  by_cases h0 : L.length = 0
  · obtain rfl := List.length_eq_zero_iff.1 h0
    rw [show ([] : List En).length = 0 from rfl] at R ⊢
    go_wp2_with fail
    refine (stableFunc_zero _ _ _).mono ?_
    rintro e w2 ⟨rfl, rfl⟩
    go_wp2_with fail
    go_ret
    exact ⟨_, rfl, by rw [insS_nil]; exact R.out, BB.out⟩
  · obtain ⟨g, rfl, hg, hgl, _⟩ := R.out.block (by omega : 0 < L.length)
    have ST := Lib.hid (stableFunc_small g L.length uc L w.heap.size w1 R.out hl rfl)
    go_wp2_with fail
    refine ST.out.mono ?_
    rintro e w2 ⟨rfl, hr, hgr⟩
    have R2 := Lib.hid hr
    have B2 := Lib.hid (BB.out.grown hgr BB.out.size (fun j hj => by cases hj; exact hg))
    clear hr hgr ST
    go_wp2_with fail
    go_ret
    exact ⟨_, rfl, R2.out, B2.out⟩
end Go.Proofs.YtjphhfgomlchoaaDoor
