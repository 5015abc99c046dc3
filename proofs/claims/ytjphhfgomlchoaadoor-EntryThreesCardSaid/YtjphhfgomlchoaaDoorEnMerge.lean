/- Merge of two lists, over whatever Sort answers. -/
import Derived.Test.YtjphhfgomlchoaaDoorEnSorts
namespace Go.Proofs.YtjphhfgomlchoaaDoor
open Go.ChangeShapes Go.WideShapes Go.ChangeAt Go.RowKit Go.Maps
theorem guardW : Tryd.prog.eqGuardType Tryd.prog.depth 39 = false := by kernel_rfl
def eqW (a b : Wd) : Bool := a.1 == b.1 && (a.2.1 == b.2.1 && a.2.2 == b.2.2)
theorem eqW_iff (a b : Wd) : eqW a b = true ↔ a = b := by
  obtain ⟨a0, a1, a2⟩ := a
  obtain ⟨b0, b1, b2⟩ := b
  simp [eqW]
theorem equalW (a b c a' b' c' : Int) (w : World) : (Op.equalIn 10000 39 (.agg #[.int .i64 a, .int .u32 b, .int .u32 c]) (.agg #[.int .i64 a', .int .u32 b', .int .u32 c'])).run Tryd.prog w = .ok (eqW (a, b, c) (a', b', c')) w := by
  have u3 := Tryd.underlying37
  have a3 := Tryd.isAgg37
  have z3 := Tryd.sizeOf37
  have u2 := Tryd.underlying2
  have a2 := Tryd.isAgg2
  have z2 := Tryd.sizeOf2
  have hS : Tryd.prog.underlying 39 = some (.struct (Tryd.prog.fieldsOf 39)) := by kernel_rfl
  have hp : Tryd.prog.stoodInHeld 39 = false := by kernel_rfl
  rw [show (10000 : Nat) = 9999 + 1 from rfl, run_equalIn_agg w 9999 39 _ _ hS hp]
  simp only [Program.fieldsOf, Tryd.underlying39]
  go_simp
  by_cases h1 : a = a' <;> by_cases h2 : b = b' <;> by_cases h3 : c = c' <;> simp [eqW, h1, h2, h3]
theorem neqW (a b c a' b' c' : Int) (w : World) : (binOp .neq 39 (.agg #[.int .i64 a, .int .u32 b, .int .u32 c]) (.agg #[.int .i64 a', .int .u32 b', .int .u32 c'])).run Tryd.prog w = .ok (.bool (!eqW (a, b, c) (a', b', c'))) w := by
  rw [run_neq_struct, equalW]; rfl
def mergeFrom (A : List En) : List En → List En → Option (List En)
  | acc, [] => some acc
  | acc, e :: r => if fnd e.1 A < 0 then mergeFrom A (acc ++ [e]) r else if eqW e.2.1 (resW A[(fnd e.1 A).toNat]!) then mergeFrom A (acc.set (fnd e.1 A).toNat (compE A[(fnd e.1 A).toNat]! e)) r else none
/-- What Merge answers, where Sort answers srt. -/
def mergeO (srt : List En → List En) (A B : List En) : List En × Int :=
  if chkP A ≠ 0 then ([], chkP A) else if chkP B ≠ 0 then ([], chkP B) else
  match mergeFrom A A B with
  | none => ([], 14)
  | some M => if 32 < M.length then ([], 15) else (srt M, 0)
theorem fnd_some {a : Int} {L : List En} (h : ¬ fnd a L < 0) : ∃ j : Nat, fnd a L = j ∧ j < L.length := by
  unfold fnd at h ⊢
  split at h
  · rename_i h2; rw [if_pos h2]; exact ⟨_, rfl, h2⟩
  · omega
theorem enrow_cells {B : Nat} {w : World} {g n c : Nat} {L : List En} (h : RowK enE 48 B w (.slice (some ⟨g, 0, none⟩) n c) L) {j : Nat} (hj : j < L.length) : w.cell? ⟨g, j * 6, none⟩ = some (.int .i64 (L[j]!).1) ∧ w.cell? ⟨g, j * 6 + 1, none⟩ = some (.int .i64 (L[j]!).2.1.1) ∧ w.cell? ⟨g, j * 6 + 2, none⟩ = some (.int .u32 (L[j]!).2.1.2.1) ∧ w.cell? ⟨g, j * 6 + 3, none⟩ = some (.int .u32 (L[j]!).2.1.2.2) ∧ w.cell? ⟨g, j * 6 + 4, none⟩ = some (.int .i64 (L[j]!).2.2.1) ∧ w.cell? ⟨g, j * 6 + 5, none⟩ = some (.bool (L[j]!).2.2.2) := by
  obtain ⟨a', c', e, _, h⟩ := h.sk
  injection e with e1 e2 e3
  rcases h with h | ⟨b, off, h1, h2, h3⟩
  · subst h; simp at hj
  · rw [← e1] at h1
    injection h1 with h1
    injection h1 with h1 h4
    subst h1 h4
    have := en_cells h3 hj
    simp only [Nat.zero_add] at this
    exact this
theorem set_at {L : List En} {j : Nat} (hj : j < L.length) (x : En) : (L.set j x)[j]! = x := by
  rw [getElem!_pos _ j (by rw [List.length_set]; exact hj), List.getElem_set_self]
theorem enrow_store {B : Nat} {w : World} {g n c : Nat} {L : List En} (h : RowK enE 48 B w (.slice (some ⟨g, 0, none⟩) n c) L) {j : Nat} (hj : j < L.length) (x : En) :
    RowK enE 48 B ((((((w.setCell ⟨g, j * 6, none⟩ (.int .i64 x.1)).setCell ⟨g, j * 6 + 1, none⟩ (.int .i64 x.2.1.1)).setCell ⟨g, j * 6 + 2, none⟩ (.int .u32 x.2.1.2.1)).setCell ⟨g, j * 6 + 3, none⟩ (.int .u32 x.2.1.2.2)).setCell ⟨g, j * 6 + 4, none⟩ (.int .i64 x.2.2.1)).setCell ⟨g, j * 6 + 5, none⟩ (.bool x.2.2.2)) (.slice (some ⟨g, 0, none⟩) n c) (L.set j x) := by
  obtain ⟨y, hy⟩ : ∃ y, L[j]! = y := ⟨_, rfl⟩
  obtain ⟨y0, ⟨y1, y2, y3⟩, y4, y5⟩ := y
  obtain ⟨x0, ⟨x1, x2, x3⟩, x4, x5⟩ := x
  have h1 := h.set (i := j) (j := 0) (u := .int .i64 x0) (a := (x0, (y1, y2, y3), y4, y5)) hj (by decide) (by rw [hy]; rfl)
  have h2 := h1.set (i := j) (j := 1) (u := .int .i64 x1) (a := (x0, (x1, y2, y3), y4, y5)) (by rw [List.length_set]; exact hj) (by decide) (by rw [set_at hj]; rfl)
  rw [List.set_set] at h2
  have h3 := h2.set (i := j) (j := 2) (u := .int .u32 x2) (a := (x0, (x1, x2, y3), y4, y5)) (by rw [List.length_set]; exact hj) (by decide) (by rw [set_at hj]; rfl)
  rw [List.set_set] at h3
  have h4 := h3.set (i := j) (j := 3) (u := .int .u32 x3) (a := (x0, (x1, x2, x3), y4, y5)) (by rw [List.length_set]; exact hj) (by decide) (by rw [set_at hj]; rfl)
  rw [List.set_set] at h4
  have h5 := h4.set (i := j) (j := 4) (u := .int .i64 x4) (a := (x0, (x1, x2, x3), x4, y5)) (by rw [List.length_set]; exact hj) (by decide) (by rw [set_at hj]; rfl)
  rw [List.set_set] at h5
  have h6 := h5.set (i := j) (j := 5) (u := .bool x5) (a := (x0, (x1, x2, x3), x4, x5)) (by rw [List.length_set]; exact hj) (by decide) (by rw [set_at hj]; rfl)
  rw [List.set_set] at h6
  exact h6
theorem row_ge {B : Nat} {w : World} {g n c : Nat} {L : List En} (h : RowK enE 48 B w (.slice (some ⟨g, 0, none⟩) n c) L) : B ≤ g := by
  obtain ⟨h1, ⟨h2, _⟩ | ⟨g', cap, cur, hv, hB, hh, _⟩⟩ := h
  · cases h2
  injection hv with e1
  injection e1 with e1
  injection e1 with e1
  rw [e1]; exact hB
theorem set6 {B : Nat} {w0 w : World} {g : Nat} (hB : B ≤ g) (hb : Below B w0 w) (a b d e f i : Nat) (x y z u v k : Value) :
    Below B w0 ((((((w.setCell ⟨g, a, none⟩ x).setCell ⟨g, b, none⟩ y).setCell ⟨g, d, none⟩ z).setCell ⟨g, e, none⟩ u).setCell ⟨g, f, none⟩ v).setCell ⟨g, i, none⟩ k) := by
  have h1 := Below.setCell (p := ⟨g, a, none⟩) hb hB x
  have h2 := Below.setCell (p := ⟨g, b, none⟩) h1 hB y
  have h3 := Below.setCell (p := ⟨g, d, none⟩) h2 hB z
  have h4 := Below.setCell (p := ⟨g, e, none⟩) h3 hB u
  have h5 := Below.setCell (p := ⟨g, f, none⟩) h4 hB v
  exact Below.setCell (p := ⟨g, i, none⟩) h5 hB k
set_option maxRecDepth 100000 in
set_option maxHeartbeats 6400000 in
theorem merge_any (srt : List En → List En) (N : Nat) (HS : ∀ v L W, ES W v L → L.length < N → Calls Tryd.prog 13 #[v] W fun e w' => ∃ u, e = .returned u ∧ RowK enE 48 W.heap.size w' u (srt L) ∧ Below W.heap.size W w')
    (v u : Value) (A B : List En) (w : World) (hv : ES w v A) (hu : ES w u B) (la : A.length ≤ 100) (lb : B.length ≤ 100) (hN : 33 ≤ N ∨ A.length + B.length < N) :
    Calls Tryd.prog 19 #[v, u] w fun e w' => ∃ x, e = .returned (.tuple #[x, .int .i64 (mergeO srt A B).2]) ∧ ES w' x (mergeO srt A B).1 ∧ Below w.heap.size w w' := by
  have HV := Lib.hid hv
  have HU := Lib.hid hu
  have SRT := Lib.hid HS
  obtain ⟨va, vc, rfl, hcap⟩ := hv.form
  obtain ⟨ua, uc, rfl, hcap2⟩ := hu.form
  clear hv hu HS
  obtain ⟨n, hn⟩ : ∃ n, A.length = n := ⟨_, rfl⟩
  obtain ⟨n2, hn2⟩ : ∃ n, B.length = n := ⟨_, rfl⟩
  rw [hn] at HV hcap la hN ⊢
  rw [hn2] at HU hcap2 lb hN ⊢
  have HN := Lib.hid hn
  have HN2 := Lib.hid hn2
  have HNN := Lib.hid hN
  clear hn hn2 hN
  obtain ⟨r, hr⟩ : ∃ r, mergeO srt A B = r := ⟨_, rfl⟩
  rw [hr]
  have HR := Lib.hid hr
  unfold mergeO at HR
  clear hr
  have CA := Lib.hid (fun W (h : Below w.heap.size w W) => checkPart_any _ A W (HV.out.below h) (by rw [HN.out]; omega))
  have CB := Lib.hid (fun W (h : Below w.heap.size w W) => checkPart_any _ B W (HU.out.below h) (by rw [HN2.out]; omega))
  obtain ⟨ca, hca⟩ : ∃ c, chkP A = c := ⟨_, rfl⟩
  obtain ⟨cb, hcb⟩ : ∃ c, chkP B = c := ⟨_, rfl⟩
  rw [hca] at HR CA
  rw [hcb] at HR CB
  clear hca hcb
  go_enter Tryd.func19, Tryd.ntmps19
  go_upto_region 2 with fail
  have X := Lib.hid (Box.new w #[.slice va n vc, .slice ua n2 uc] 22 rfl)
  have BB := Lib.hid (below1 w (.cells #[.slice va n vc, .slice ua n2 uc] 22))
  generalize w.alloc (.cells #[.slice va n vc, .slice ua n2 uc] 22) = W at *
  obtain ⟨q, hq⟩ : ∃ q, w.heap.size = q := ⟨_, rfl⟩
  rw [hq] at X ⊢
  clear hq
  go_wp2_with fail
  go_loopw [17] (fun iv wr => ∃ k : Nat, k ≤ 2 ∧ iv = .int .i64 k ∧ (1 ≤ k → ca = 0) ∧ (2 ≤ k → cb = 0) ∧ Box wr q #[.slice va n vc, .slice ua n2 uc] 22 ∧ Below w.heap.size w wr) (fun iv _ => 2 - (intOf iv).toNat)
  case atStart => exact ⟨0, by omega, rfl, fun h => by omega, fun h => by omega, X.out, BB.out⟩
  case round =>
    obtain ⟨k, hk, rfl, h1, h2, hx, hb⟩ := hrel
    replace X := Lib.hid hx
    replace BB := Lib.hid hb
    clear hx hb
    have z0 := X.out.cell 0
    have z1 := X.out.cell 1
    simp at z0 z1
    by_cases hk0 : k = 0
    · subst hk0
      clear h1 h2
      go_wp2_with fail
      refine (CA.out _ BB.out).mono ?_
      rintro e w1 ⟨rfl, hb⟩
      replace X := Lib.hid (X.out.below hb)
      replace BB := Lib.hid (BB.out.trans (hb.mono BB.out.size))
      clear hb z0 z1
      by_cases h0 : ca = 0
      · subst h0
        go_wp2_with fail
        go_roundw
        case rel => exact ⟨1, by omega, by go_num, fun _ => (by first | rfl | trivial), fun h => by omega, X.out, BB.out⟩
        case measure => simp [intOf]
      · have h0' : (ca != 0) = true := by rw [bne_iff_ne]; exact h0
        rw [if_pos h0] at HR
        go_wp2_with fail
        go_ret2
        exact ⟨.slice none 0 0, by rw [← HR.out]; try rfl, by rw [← HR.out]; exact SK.nil _ _ _, BB.out⟩
    by_cases hk1 : k = 1
    · subst hk1
      have hca := h1 (Nat.le_refl _)
      subst hca
      clear h1 h2 hk0
      go_wp2_with fail
      refine (CB.out _ BB.out).mono ?_
      rintro e w1 ⟨rfl, hb⟩
      replace X := Lib.hid (X.out.below hb)
      replace BB := Lib.hid (BB.out.trans (hb.mono BB.out.size))
      clear hb z0 z1
      by_cases h0 : cb = 0
      · subst h0
        go_wp2_with fail
        go_roundw
        case rel => exact ⟨2, by omega, by go_num, fun _ => (by first | rfl | trivial), fun _ => (by first | rfl | trivial), X.out, BB.out⟩
        case measure => simp [intOf]
      · have h0' : (cb != 0) = true := by rw [bne_iff_ne]; exact h0
        rw [if_neg (by simp), if_pos h0] at HR
        go_wp2_with fail
        go_ret2
        exact ⟨.slice none 0 0, by rw [← HR.out]; try rfl, by rw [← HR.out]; exact SK.nil _ _ _, BB.out⟩
    · obtain rfl : k = 2 := by omega
      have hca := h1 (by omega)
      have hcb := h2 (by omega)
      subst hca hcb
      rw [if_neg (by simp), if_neg (by simp)] at HR
      clear h1 h2 hk0 hk1 z0 z1 CA CB X
      have CL := Lib.hid (cloneE_any _ A wr (HV.out.below BB.out) (by rw [HN.out]; omega))
      go_wp2_with fail
      refine CL.out.mono ?_
      rintro e w1 ⟨m, rfl, hr, hb⟩
      obtain ⟨ma, mc, rfl, _⟩ := hr.form
      have M0 := Lib.hid (hr.mono BB.out.size)
      rw [HN.out] at M0 ⊢
      replace BB := Lib.hid (BB.out.trans (hb.mono BB.out.size))
      clear hr hb CL
      go_wp2_with fail
      go_loopw [9, 31] (fun mv iv wr => ∃ k : Nat, ∃ acc, k ≤ n2 ∧ iv = .int .i64 k ∧ RowK enE 48 w.heap.size wr mv acc ∧ mergeFrom A acc (B.drop k) = mergeFrom A A B ∧ n ≤ acc.length ∧ acc.length ≤ n + k ∧ Below w.heap.size w wr) (fun _ iv _ => n2 - (intOf iv).toNat)
      case atStart => exact ⟨0, A, by omega, rfl, M0.out, rfl, by rw [HN.out]; exact Nat.le_refl _, by rw [HN.out]; exact Nat.le_refl _, BB.out⟩
      case round =>
        obtain ⟨k, acc, hk, rfl, hr, hmf, hge, hle, hb⟩ := hrel
        replace BB := Lib.hid hb
        have M := Lib.hid hr
        have MF := Lib.hid hmf
        clear hb hr hmf M0
        obtain ⟨ma, mc, rfl, _⟩ := M.out.form
        obtain ⟨mn, hmn⟩ : ∃ z, acc.length = z := ⟨_, rfl⟩
        rw [hmn] at hge hle M ⊢
        have HML := Lib.hid hmn
        clear hmn
        by_cases hlt : k < n2
        · obtain ⟨b, off, rfl, hbl, hln, hc⟩ := HU.out.addr hlt
          obtain ⟨c0, c1, c2, c3, c4, c5⟩ := en_cells hc (by rw [hln]; exact hlt)
          rw [← BB.out.cell (p := ⟨b, _, none⟩) hbl] at c0 c1 c2 c3 c4 c5
          rw [drop_cons B (by rw [HN2.out]; exact hlt), mergeFrom] at MF
          have FI := Lib.hid (fun W (h : Below w.heap.size w W) => find_any _ A (B[k]!).1 W (HV.out.below h) (by rw [HN.out]; omega))
          clear hc hln
          obtain ⟨y, hy⟩ : ∃ y, B[k]! = y := ⟨_, rfl⟩
          rw [hy] at c0 c1 c2 c3 c4 c5 MF FI
          clear hy
          obtain ⟨y0, ⟨y1, y2, y3⟩, y4, y5⟩ := y
          simp only at c0 c1 c2 c3 c4 c5 MF FI
          have FS := Lib.hid (fun h => fnd_some (a := y0) (L := A) h)
          obtain ⟨fi, hfi⟩ : ∃ z, fnd y0 A = z := ⟨_, rfl⟩
          rw [hfi] at MF FI FS
          clear hfi
          go_upto_region 12 with fail
          have HPM : Hid (∀ g, ma = some ⟨g, 0, none⟩ → wr.heap.size ≠ g) := Lib.hid (by
            rintro g rfl e
            obtain ⟨h1, ⟨h2, h3⟩ | ⟨g', cap, cur, hv, hB, hh, _⟩⟩ := M.out
            · cases h2
            · injection hv with e1; injection e1 with e1; injection e1 with e1; have := lt_block hh; omega)
          have PB := Lib.hid (Box.new wr #[.int .i64 y0, .int .i64 y1, .int .u32 y2, .int .u32 y3, .int .i64 y4, .bool y5] 48 rfl)
          replace M := Lib.hid (M.out.below (below1 wr (.cells #[.int .i64 y0, .int .i64 y1, .int .u32 y2, .int .u32 y3, .int .i64 y4, .bool y5] 48)))
          replace BB := Lib.hid (BB.out.alloc BB.out.size (.cells #[.int .i64 y0, .int .i64 y1, .int .u32 y2, .int .u32 y3, .int .i64 y4, .bool y5] 48))
          generalize wr.alloc (.cells #[.int .i64 y0, .int .i64 y1, .int .u32 y2, .int .u32 y3, .int .i64 y4, .bool y5] 48) = W4 at *
          generalize wr.heap.size = p at *
          clear c0 c1 c2 c3 c4 c5
          have x0 := PB.out.cell 0
          simp at x0
          go_wp2_with fail
          refine (FI.out W4 BB.out).mono ?_
          rintro e w5 ⟨rfl, hb⟩
          replace M := Lib.hid (M.out.below hb)
          replace PB := Lib.hid (PB.out.below hb)
          replace BB := Lib.hid (BB.out.trans (hb.mono BB.out.size))
          clear hb x0 FI
          by_cases hf : fi < 0
          · rw [if_pos hf] at MF
            have x0 := PB.out.cell 0
            have x1 := PB.out.cell 1
            have x2 := PB.out.cell 2
            have x3 := PB.out.cell 3
            have x4 := PB.out.cell 4
            have x5 := PB.out.cell 5
            simp at x0 x1 x2 x3 x4 x5
            have E3 := Lib.hid (SK.ofBox (E := enE) (Box.new w5 #[.int .i64 y0, .int .i64 y1, .int .u32 y2, .int .u32 y3, .int .i64 y4, .bool y5] 48 rfl) (L := [(y0, (y1, y2, y3), y4, y5)]) (n := 1) (cap := 1) rfl rfl (Nat.le_refl _))
            have MA := Lib.hid (M.out.below (below1 w5 (.cells #[.int .i64 y0, .int .i64 y1, .int .u32 y2, .int .u32 y3, .int .i64 y4, .bool y5] 48)))
            have BA := Lib.hid (BB.out.alloc BB.out.size (.cells #[.int .i64 y0, .int .i64 y1, .int .u32 y2, .int .u32 y3, .int .i64 y4, .bool y5] 48))
            go_wp2_with (first
              | (at_builtin; refine wpList_appK (w0 := w) Tryd.underlying22 infoEn rfl (by decide) _ rfl (.tmp 51) (.tmp 53) rfl rfl BA.out MA.out rfl E3.out (by simp; rw [HML.out]; omega) ?_; intro v3 w3 r3 b3 g3; obtain ⟨a6, c6, e6⟩ : ∃ a c, v3 = .slice a (mn + 1) c := (by obtain ⟨a, c, h, _⟩ := r3.form; exact ⟨a, c, by rw [h, List.length_append, HML.out]; rfl⟩); subst e6; have R3 := Lib.hid r3; have B3 := Lib.hid b3; clear r3 b3 g3)
              | fail)
            go_roundw
            case rel => exact ⟨k + 1, acc ++ [(y0, (y1, y2, y3), y4, y5)], by omega, by go_num, R3.out, MF.out, by rw [List.length_append, HML.out]; simp; omega, by rw [List.length_append, HML.out]; simp; omega, B3.out⟩
            case measure => simp [intOf]; omega
          · obtain ⟨j, rfl, hj⟩ := FS.out (by omega)
            rw [if_neg hf, Int.toNat_natCast] at MF
            rw [HN.out] at hj
            obtain ⟨b2, off2, rfl, hbl2, hln2, hc2⟩ := HV.out.addr hj
            have KA0 := Lib.hid (en_cells hc2 (by rw [hln2]; exact hj))
            have RS := Lib.hid (result_any A[j]!)
            have CO := Lib.hid (compose_any A[j]! (y0, (y1, y2, y3), y4, y5))
            clear hc2 hln2
            unfold enV wdV at RS
            unfold enV compE at CO
            unfold compE at MF
            obtain ⟨z, hz⟩ : ∃ z, A[j]! = z := ⟨_, rfl⟩
            rw [hz] at KA0 RS CO MF
            clear hz
            obtain ⟨z0, ⟨z1, z2, z3⟩, z4, z5⟩ := z
            obtain ⟨s, hs⟩ : ∃ s, resW (z0, (z1, z2, z3), z4, z5) = s := ⟨_, rfl⟩
            rw [hs] at RS MF
            clear hs
            obtain ⟨s0, s1, s2⟩ := s
            simp only at KA0 RS CO MF
            have KA := Lib.hid (fun W (h : Below w.heap.size w W) => show W.cell? ⟨b2, off2 + j * 6, none⟩ = some (.int .i64 z0) ∧ W.cell? ⟨b2, off2 + j * 6 + 1, none⟩ = some (.int .i64 z1) ∧ W.cell? ⟨b2, off2 + j * 6 + 2, none⟩ = some (.int .u32 z2) ∧ W.cell? ⟨b2, off2 + j * 6 + 3, none⟩ = some (.int .u32 z3) ∧ W.cell? ⟨b2, off2 + j * 6 + 4, none⟩ = some (.int .i64 z4) ∧ W.cell? ⟨b2, off2 + j * 6 + 5, none⟩ = some (.bool z5) from ⟨(h.cell hbl2).trans KA0.out.1, (h.cell hbl2).trans KA0.out.2.1, (h.cell hbl2).trans KA0.out.2.2.1, (h.cell hbl2).trans KA0.out.2.2.2.1, (h.cell hbl2).trans KA0.out.2.2.2.2.1, (h.cell hbl2).trans KA0.out.2.2.2.2.2⟩)
            obtain ⟨g, rfl, hg, hgl, _⟩ := M.out.block (by omega : 0 < mn)
            have HPG : Hid (p ≠ g) := Lib.hid (HPM.out g rfl)
            have RW := Lib.hid (fun W (h : Below w5.heap.size w5 W) => M.out.below h)
            have KS := Lib.hid (fun W (h : Below w5.heap.size w5 W) => And.intro ((PB.out.below h).cell 0) (And.intro ((PB.out.below h).cell 1) (And.intro ((PB.out.below h).cell 2) (And.intro ((PB.out.below h).cell 3) (And.intro ((PB.out.below h).cell 4) (And.intro ((PB.out.below h).cell 5) (KA.out W (BB.out.trans (h.mono BB.out.size)))))))))
            have qN := neqW
            have gP := guardW
            have j0 : (0 : Int) ≤ (j : Int) := by omega
            have j1 : (j : Int) < (n : Int) := by omega
            have j2 : (j : Int) < (mn : Int) := by omega
            go_upto_region 16 with fail
            have P := Lib.hid ((Below.refl w5.heap.size w5).drew)
            refine wp_region_held_drew (S := fun w' => w'.cell? ⟨p, 0, none⟩ = some (.int .i64 y0) ∧ w'.cell? ⟨p, 1, none⟩ = some (.int .i64 y1) ∧ w'.cell? ⟨p, 2, none⟩ = some (.int .u32 y2) ∧ w'.cell? ⟨p, 3, none⟩ = some (.int .u32 y3) ∧ w'.cell? ⟨p, 4, none⟩ = some (.int .i64 y4) ∧ w'.cell? ⟨p, 5, none⟩ = some (.bool y5) ∧ w'.cell? ⟨b2, off2 + j * 6, none⟩ = some (.int .i64 z0) ∧ w'.cell? ⟨b2, off2 + j * 6 + 1, none⟩ = some (.int .i64 z1) ∧ w'.cell? ⟨b2, off2 + j * 6 + 2, none⟩ = some (.int .u32 z2) ∧ w'.cell? ⟨b2, off2 + j * 6 + 3, none⟩ = some (.int .u32 z3) ∧ w'.cell? ⟨b2, off2 + j * 6 + 4, none⟩ = some (.int .i64 z4) ∧ w'.cell? ⟨b2, off2 + j * 6 + 5, none⟩ = some (.bool z5)) (by kernel_rfl) ⟨(KS.out _ P.out).1, (KS.out _ P.out).2.1, (KS.out _ P.out).2.2.1, (KS.out _ P.out).2.2.2.1, (KS.out _ P.out).2.2.2.2.1, (KS.out _ P.out).2.2.2.2.2.1, (KS.out _ P.out).2.2.2.2.2.2.1, (KS.out _ P.out).2.2.2.2.2.2.2.1, (KS.out _ P.out).2.2.2.2.2.2.2.2.1, (KS.out _ P.out).2.2.2.2.2.2.2.2.2.1, (KS.out _ P.out).2.2.2.2.2.2.2.2.2.2.1, (KS.out _ P.out).2.2.2.2.2.2.2.2.2.2.2⟩ (fun hHeld => ?_)
            generalize World.drew w5 = V0 at *
            refine wpAnyH_take (i := 0) (oi := { dst := some 56, op := Op.fieldAddr 48 (Operand.tmp 11) 1, type := 0, pos := "merge.go:22", after := #[], guard := none }) (v := ?d1_1xv0) rfl (by kernel_rfl) (by kernel_rfl) (by kernel_rfl) (fun _ _ _ h => h) (Or.inl ⟨by rfl, ?d1_1xy0⟩) (by assumption) ?d1_1xr0
            case d1_1xy0 => (intro w hSw; (try dsimp only at hSw); go_simp; try with_reducible rfl)
            (try simp only [Act.put])
            (try simp only [List.setIfInBounds_toArray])
            (try simp only [List.set_cons_succ])
            (try simp only [List.set_cons_zero])
            refine wpAnyH_take (i := 1) (oi := { dst := some 57, op := Op.load 39 (Operand.tmp 56), type := 39, pos := "merge.go:22", after := #[{ on := 0, ground := Ground.data }], guard := none }) (v := ?d1_2xv1) rfl (by kernel_rfl) (by kernel_rfl) (by kernel_rfl) (fun _ _ _ h => h) (Or.inl ⟨by rfl, ?d1_2xy1⟩) (by assumption) ?d1_2xr1
            case d1_2xy1 => (intro w hSw; (try dsimp only at hSw); go_simp; try with_reducible rfl)
            (try simp only [Act.put])
            (try simp only [List.setIfInBounds_toArray])
            (try simp only [List.set_cons_succ])
            (try simp only [List.set_cons_zero])
            refine wpAnyH_take (i := 2) (oi := { dst := some 58, op := Op.move (Operand.tmp 0), type := 22, pos := "merge.go:22", after := #[], guard := none }) (v := ?d1_3xv2) rfl (by kernel_rfl) (by kernel_rfl) (by kernel_rfl) (fun _ _ _ h => h) (Or.inl ⟨by rfl, ?d1_3xy2⟩) (by assumption) ?d1_3xr2
            case d1_3xy2 => (intro w hSw; (try dsimp only at hSw); go_simp; try with_reducible rfl)
            (try simp only [Act.put])
            (try simp only [List.setIfInBounds_toArray])
            (try simp only [List.set_cons_succ])
            (try simp only [List.set_cons_zero])
            refine wpAnyH_take (i := 3) (oi := { dst := some 59, op := Op.move (Operand.tmp 12), type := 3, pos := "merge.go:22", after := #[], guard := none }) (v := ?d1_4xv3) rfl (by kernel_rfl) (by kernel_rfl) (by kernel_rfl) (fun _ _ _ h => h) (Or.inl ⟨by rfl, ?d1_4xy3⟩) (by assumption) ?d1_4xr3
            case d1_4xy3 => (intro w hSw; (try dsimp only at hSw); go_simp; try with_reducible rfl)
            (try simp only [Act.put])
            (try simp only [List.setIfInBounds_toArray])
            (try simp only [List.set_cons_succ])
            (try simp only [List.set_cons_zero])
            refine wpAnyH_take (i := 4) (oi := { dst := some 60, op := Op.indexAddr 22 (Operand.tmp 58) (Operand.tmp 59), type := 0, pos := "merge.go:22", after := #[{ on := 2, ground := Ground.data }, { on := 3, ground := Ground.data }], guard := none }) (v := ?d1_5xv4) rfl (by kernel_rfl) (by kernel_rfl) (by kernel_rfl) (fun _ _ _ h => h) (Or.inl ⟨by rfl, ?d1_5xy4⟩) (by assumption) ?d1_5xr4
            case d1_5xy4 => (intro w hSw; (try dsimp only at hSw); go_simp; try with_reducible rfl)
            (try simp only [Act.put])
            (try simp only [List.setIfInBounds_toArray])
            (try simp only [List.set_cons_succ])
            (try simp only [List.set_cons_zero])
            refine wpAnyH_take (i := 5) (oi := { dst := some 61, op := Op.load 48 (Operand.tmp 60), type := 48, pos := "merge.go:22", after := #[{ on := 4, ground := Ground.data }], guard := none }) (v := ?d1_6xv5) rfl (by kernel_rfl) (by kernel_rfl) (by kernel_rfl) (fun _ _ _ h => h) (Or.inl ⟨by rfl, ?d1_6xy5⟩) (by assumption) ?d1_6xr5
            case d1_6xy5 => (intro w hSw; (try dsimp only at hSw); go_simp; try with_reducible rfl)
            (try simp only [Act.put])
            (try simp only [List.setIfInBounds_toArray])
            (try simp only [List.set_cons_succ])
            (try simp only [List.set_cons_zero])
            refine wpAnyH_ready (rs := [6]) (by kernel_rfl) (by simp) ?_
            refine AllReadyH.cons (o := { dst := some 62, op := Op.call { callee := Callee.value (Operand.func 38), args := #[Operand.tmp 61], argTypes := #[48] }, type := 39, pos := "merge.go:22", after := #[{ on := 5, ground := Ground.data }], guard := none }) rfl (fun K hK => ?_) AllReadyH.nil
            go_simp
            go_at_call 38
            refine (RS.out _).mono ?_
            rintro e v1 ⟨rfl, hb9⟩
            replace P := Lib.hid (P.out.trans (hb9.mono P.out.size))
            clear hb9
            go_simp
            refine hK.out _ _ ?_ (fun hHeld => ?_)
            · exact ⟨(KS.out _ P.out).1, (KS.out _ P.out).2.1, (KS.out _ P.out).2.2.1, (KS.out _ P.out).2.2.2.1, (KS.out _ P.out).2.2.2.2.1, (KS.out _ P.out).2.2.2.2.2.1, (KS.out _ P.out).2.2.2.2.2.2.1, (KS.out _ P.out).2.2.2.2.2.2.2.1, (KS.out _ P.out).2.2.2.2.2.2.2.2.1, (KS.out _ P.out).2.2.2.2.2.2.2.2.2.1, (KS.out _ P.out).2.2.2.2.2.2.2.2.2.2.1, (KS.out _ P.out).2.2.2.2.2.2.2.2.2.2.2⟩
            clear hK K
            (try simp only [Act.put])
            (try simp only [List.setIfInBounds_toArray])
            (try simp only [List.set_cons_succ])
            (try simp only [List.set_cons_zero])
            refine wpAnyH_take (i := 7) (oi := { dst := some 63, op := Op.binOp BinOp.neq 39 (Operand.tmp 57) (Operand.tmp 62) 39, type := 4, pos := "merge.go:22", after := #[{ on := 1, ground := Ground.data }, { on := 6, ground := Ground.data }], guard := none }) (v := ?d2_7xv7) rfl (by kernel_rfl) (by kernel_rfl) (by kernel_rfl) (fun _ _ _ h => h) (Or.inl ⟨by rfl, ?d2_7xy7⟩) (by assumption) ?d2_7xr7
            case d2_7xy7 => (intro w hSw; (try dsimp only at hSw); go_simp; try with_reducible rfl)
            (try simp only [Act.put])
            (try simp only [List.setIfInBounds_toArray])
            (try simp only [List.set_cons_succ])
            (try simp only [List.set_cons_zero])
            refine wpAnyH_ready (rs := [8]) (by kernel_rfl) (by simp) ?_
            refine AllReadyH.cons (o := { dst := some 55, op := Op.assign (Operand.tmp 63), type := 4, pos := "merge.go:22", after := #[{ on := 7, ground := Ground.data }, { on := 6, ground := Ground.chain }], guard := none }) rfl (fun K hK => ?_) AllReadyH.nil
            go_simp
            refine hK.out _ _ ?_ (fun hHeld => ?_)
            · exact ⟨(KS.out _ P.out).1, (KS.out _ P.out).2.1, (KS.out _ P.out).2.2.1, (KS.out _ P.out).2.2.2.1, (KS.out _ P.out).2.2.2.2.1, (KS.out _ P.out).2.2.2.2.2.1, (KS.out _ P.out).2.2.2.2.2.2.1, (KS.out _ P.out).2.2.2.2.2.2.2.1, (KS.out _ P.out).2.2.2.2.2.2.2.2.1, (KS.out _ P.out).2.2.2.2.2.2.2.2.2.1, (KS.out _ P.out).2.2.2.2.2.2.2.2.2.2.1, (KS.out _ P.out).2.2.2.2.2.2.2.2.2.2.2⟩
            clear hK K
            (try simp only [Act.put])
            (try simp only [List.setIfInBounds_toArray])
            (try simp only [List.set_cons_succ])
            (try simp only [List.set_cons_zero])
            refine wpAnyH_done (by kernel_rfl) ?_ _
            clear hHeld
            cases he : eqW (y1, y2, y3) (s0, s1, s2) with
            | false =>
              rw [he, if_neg (by simp)] at MF
              rw [← MF.out] at HR
              go_wp2_with fail
              go_ret2
              exact ⟨.slice none 0 0, by rw [← HR.out]; try rfl, by rw [← HR.out]; exact SK.nil _ _ _, BB.out.trans (P.out.mono BB.out.size)⟩
            | true =>
              rw [he, if_pos rfl] at MF
              go_upto_region 13 with fail
              replace P := Lib.hid (P.out.drew)
              refine wp_region_held_drew (S := fun w' => w'.cell? ⟨p, 0, none⟩ = some (.int .i64 y0) ∧ w'.cell? ⟨p, 1, none⟩ = some (.int .i64 y1) ∧ w'.cell? ⟨p, 2, none⟩ = some (.int .u32 y2) ∧ w'.cell? ⟨p, 3, none⟩ = some (.int .u32 y3) ∧ w'.cell? ⟨p, 4, none⟩ = some (.int .i64 y4) ∧ w'.cell? ⟨p, 5, none⟩ = some (.bool y5) ∧ w'.cell? ⟨b2, off2 + j * 6, none⟩ = some (.int .i64 z0) ∧ w'.cell? ⟨b2, off2 + j * 6 + 1, none⟩ = some (.int .i64 z1) ∧ w'.cell? ⟨b2, off2 + j * 6 + 2, none⟩ = some (.int .u32 z2) ∧ w'.cell? ⟨b2, off2 + j * 6 + 3, none⟩ = some (.int .u32 z3) ∧ w'.cell? ⟨b2, off2 + j * 6 + 4, none⟩ = some (.int .i64 z4) ∧ w'.cell? ⟨b2, off2 + j * 6 + 5, none⟩ = some (.bool z5)) (by kernel_rfl) ⟨(KS.out _ P.out).1, (KS.out _ P.out).2.1, (KS.out _ P.out).2.2.1, (KS.out _ P.out).2.2.2.1, (KS.out _ P.out).2.2.2.2.1, (KS.out _ P.out).2.2.2.2.2.1, (KS.out _ P.out).2.2.2.2.2.2.1, (KS.out _ P.out).2.2.2.2.2.2.2.1, (KS.out _ P.out).2.2.2.2.2.2.2.2.1, (KS.out _ P.out).2.2.2.2.2.2.2.2.2.1, (KS.out _ P.out).2.2.2.2.2.2.2.2.2.2.1, (KS.out _ P.out).2.2.2.2.2.2.2.2.2.2.2⟩ (fun hHeld => ?_)
              generalize World.drew v1 = V2 at *
              refine wpAnyH_take (i := 0) (oi := { dst := some 39, op := Op.move (Operand.tmp 9), type := 22, pos := "merge.go:25", after := #[], guard := none }) (v := ?d3_1xv0) rfl (by kernel_rfl) (by kernel_rfl) (by kernel_rfl) (fun _ _ _ h => h) (Or.inl ⟨by rfl, ?d3_1xy0⟩) (by assumption) ?d3_1xr0
              case d3_1xy0 => (intro w hSw; (try dsimp only at hSw); go_simp; try with_reducible rfl)
              (try simp only [Act.put])
              (try simp only [List.setIfInBounds_toArray])
              (try simp only [List.set_cons_succ])
              (try simp only [List.set_cons_zero])
              refine wpAnyH_take (i := 1) (oi := { dst := some 40, op := Op.move (Operand.tmp 12), type := 3, pos := "merge.go:25", after := #[], guard := none }) (v := ?d3_2xv1) rfl (by kernel_rfl) (by kernel_rfl) (by kernel_rfl) (fun _ _ _ h => h) (Or.inl ⟨by rfl, ?d3_2xy1⟩) (by assumption) ?d3_2xr1
              case d3_2xy1 => (intro w hSw; (try dsimp only at hSw); go_simp; try with_reducible rfl)
              (try simp only [Act.put])
              (try simp only [List.setIfInBounds_toArray])
              (try simp only [List.set_cons_succ])
              (try simp only [List.set_cons_zero])
              refine wpAnyH_take (i := 2) (oi := { dst := some 41, op := Op.move (Operand.tmp 0), type := 22, pos := "merge.go:25", after := #[], guard := none }) (v := ?d3_3xv2) rfl (by kernel_rfl) (by kernel_rfl) (by kernel_rfl) (fun _ _ _ h => h) (Or.inl ⟨by rfl, ?d3_3xy2⟩) (by assumption) ?d3_3xr2
              case d3_3xy2 => (intro w hSw; (try dsimp only at hSw); go_simp; try with_reducible rfl)
              (try simp only [Act.put])
              (try simp only [List.setIfInBounds_toArray])
              (try simp only [List.set_cons_succ])
              (try simp only [List.set_cons_zero])
              refine wpAnyH_take (i := 3) (oi := { dst := some 42, op := Op.move (Operand.tmp 12), type := 3, pos := "merge.go:25", after := #[], guard := none }) (v := ?d3_4xv3) rfl (by kernel_rfl) (by kernel_rfl) (by kernel_rfl) (fun _ _ _ h => h) (Or.inl ⟨by rfl, ?d3_4xy3⟩) (by assumption) ?d3_4xr3
              case d3_4xy3 => (intro w hSw; (try dsimp only at hSw); go_simp; try with_reducible rfl)
              (try simp only [Act.put])
              (try simp only [List.setIfInBounds_toArray])
              (try simp only [List.set_cons_succ])
              (try simp only [List.set_cons_zero])
              refine wpAnyH_take (i := 4) (oi := { dst := some 43, op := Op.indexAddr 22 (Operand.tmp 41) (Operand.tmp 42), type := 0, pos := "merge.go:25", after := #[{ on := 2, ground := Ground.data }, { on := 3, ground := Ground.data }], guard := none }) (v := ?d3_5xv4) rfl (by kernel_rfl) (by kernel_rfl) (by kernel_rfl) (fun _ _ _ h => h) (Or.inl ⟨by rfl, ?d3_5xy4⟩) (by assumption) ?d3_5xr4
              case d3_5xy4 => (intro w hSw; (try dsimp only at hSw); go_simp; try with_reducible rfl)
              (try simp only [Act.put])
              (try simp only [List.setIfInBounds_toArray])
              (try simp only [List.set_cons_succ])
              (try simp only [List.set_cons_zero])
              refine wpAnyH_take (i := 5) (oi := { dst := some 44, op := Op.load 48 (Operand.tmp 43), type := 48, pos := "merge.go:25", after := #[{ on := 4, ground := Ground.data }], guard := none }) (v := ?d3_6xv5) rfl (by kernel_rfl) (by kernel_rfl) (by kernel_rfl) (fun _ _ _ h => h) (Or.inl ⟨by rfl, ?d3_6xy5⟩) (by assumption) ?d3_6xr5
              case d3_6xy5 => (intro w hSw; (try dsimp only at hSw); go_simp; try with_reducible rfl)
              (try simp only [Act.put])
              (try simp only [List.setIfInBounds_toArray])
              (try simp only [List.set_cons_succ])
              (try simp only [List.set_cons_zero])
              refine wpAnyH_take (i := 6) (oi := { dst := some 45, op := Op.load 48 (Operand.tmp 11), type := 48, pos := "merge.go:25", after := #[], guard := none }) (v := ?d3_7xv6) rfl (by kernel_rfl) (by kernel_rfl) (by kernel_rfl) (fun _ _ _ h => h) (Or.inl ⟨by rfl, ?d3_7xy6⟩) (by assumption) ?d3_7xr6
              case d3_7xy6 => (intro w hSw; (try dsimp only at hSw); go_simp; try with_reducible rfl)
              (try simp only [Act.put])
              (try simp only [List.setIfInBounds_toArray])
              (try simp only [List.set_cons_succ])
              (try simp only [List.set_cons_zero])
              refine wpAnyH_ready (rs := [7]) (by kernel_rfl) (by simp) ?_
              refine AllReadyH.cons (o := { dst := some 46, op := Op.call { callee := Callee.value (Operand.func 39), args := #[Operand.tmp 44, Operand.tmp 45], argTypes := #[48, 48] }, type := 48, pos := "merge.go:25", after := #[{ on := 5, ground := Ground.data }, { on := 6, ground := Ground.data }], guard := none }) rfl (fun K hK => ?_) AllReadyH.nil
              go_simp
              go_at_call 39
              refine (CO.out _).mono ?_
              rintro e v3 ⟨rfl, hb9⟩
              replace P := Lib.hid (P.out.trans (hb9.mono P.out.size))
              clear hb9
              go_simp
              refine hK.out _ _ ?_ (fun hHeld => ?_)
              · exact ⟨(KS.out _ P.out).1, (KS.out _ P.out).2.1, (KS.out _ P.out).2.2.1, (KS.out _ P.out).2.2.2.1, (KS.out _ P.out).2.2.2.2.1, (KS.out _ P.out).2.2.2.2.2.1, (KS.out _ P.out).2.2.2.2.2.2.1, (KS.out _ P.out).2.2.2.2.2.2.2.1, (KS.out _ P.out).2.2.2.2.2.2.2.2.1, (KS.out _ P.out).2.2.2.2.2.2.2.2.2.1, (KS.out _ P.out).2.2.2.2.2.2.2.2.2.2.1, (KS.out _ P.out).2.2.2.2.2.2.2.2.2.2.2⟩
              clear hK K
              (try simp only [Act.put])
              (try simp only [List.setIfInBounds_toArray])
              (try simp only [List.set_cons_succ])
              (try simp only [List.set_cons_zero])
              refine wpAnyH_take (i := 8) (oi := { dst := some 47, op := Op.indexAddr 22 (Operand.tmp 39) (Operand.tmp 40), type := 0, pos := "merge.go:25", after := #[{ on := 0, ground := Ground.data }, { on := 1, ground := Ground.data }, { on := 0, ground := Ground.phase }, { on := 1, ground := Ground.phase }, { on := 2, ground := Ground.phase }, { on := 3, ground := Ground.phase }, { on := 4, ground := Ground.phase }, { on := 5, ground := Ground.phase }, { on := 6, ground := Ground.phase }, { on := 7, ground := Ground.phase }], guard := none }) (v := ?d4_8xv8) rfl (by kernel_rfl) (by kernel_rfl) (by kernel_rfl) (fun _ _ _ h => h) (Or.inl ⟨by rfl, ?d4_8xy8⟩) (by assumption) ?d4_8xr8
              case d4_8xy8 => (intro w hSw; (try dsimp only at hSw); go_simp; try with_reducible rfl)
              (try simp only [Act.put])
              (try simp only [List.setIfInBounds_toArray])
              (try simp only [List.set_cons_succ])
              (try simp only [List.set_cons_zero])
              refine wpAnyH_ready (rs := [9]) (by kernel_rfl) (by simp) ?_
              refine AllReadyH.cons (o := { dst := none, op := Op.store 48 (Operand.tmp 47) (Operand.tmp 46), type := 0, pos := "merge.go:25", after := #[{ on := 8, ground := Ground.data }, { on := 7, ground := Ground.data }, { on := 7, ground := Ground.chain }, { on := 0, ground := Ground.phase }, { on := 1, ground := Ground.phase }, { on := 2, ground := Ground.phase }, { on := 3, ground := Ground.phase }, { on := 4, ground := Ground.phase }, { on := 5, ground := Ground.phase }, { on := 6, ground := Ground.phase }, { on := 7, ground := Ground.phase }], guard := none }) rfl (fun K hK => ?_) AllReadyH.nil
              have RP := Lib.hid (RW.out _ P.out)
              obtain ⟨r0, r1, r2, r3, r4, r5⟩ := enrow_cells RP.out (j := j) (by rw [HML.out]; omega)
              have f0 := RP.out.free (j * 6)
              have f1 := RP.out.free (j * 6 + 1)
              have f2 := RP.out.free (j * 6 + 2)
              have f3 := RP.out.free (j * 6 + 3)
              have f4 := RP.out.free (j * 6 + 4)
              have f5 := RP.out.free (j * 6 + 5)
              have NS := Lib.hid (enrow_store RP.out (j := j) (by rw [HML.out]; omega) (z0, (z1, z2, z3), y4, z5 || y5))
              have NB := Lib.hid (set6 (row_ge RP.out) (BB.out.trans (P.out.mono BB.out.size)) (j * 6) (j * 6 + 1) (j * 6 + 2) (j * 6 + 3) (j * 6 + 4) (j * 6 + 5) (.int .i64 z0) (.int .i64 z1) (.int .u32 z2) (.int .u32 z3) (.int .i64 y4) (.bool (z5 || y5)))
              have PX := Lib.hid (((((((PB.out.below P.out).other HPG.out (j * 6) (.int .i64 z0)).other HPG.out (j * 6 + 1) (.int .i64 z1)).other HPG.out (j * 6 + 2) (.int .u32 z2)).other HPG.out (j * 6 + 3) (.int .u32 z3)).other HPG.out (j * 6 + 4) (.int .i64 y4)).other HPG.out (j * 6 + 5) (.bool (z5 || y5)))
              have KX := Lib.hid (And.intro (PX.out.cell 0) (And.intro (PX.out.cell 1) (And.intro (PX.out.cell 2) (And.intro (PX.out.cell 3) (And.intro (PX.out.cell 4) (And.intro (PX.out.cell 5) (KA.out _ NB.out)))))))
              go_simp
              clear r0 r1 r2 r3 r4 r5 f0 f1 f2 f3 f4 f5
              refine hK.out _ _ ?_ (fun hHeld => ?_)
              · exact ⟨KX.out.1, KX.out.2.1, KX.out.2.2.1, KX.out.2.2.2.1, KX.out.2.2.2.2.1, KX.out.2.2.2.2.2.1, KX.out.2.2.2.2.2.2.1, KX.out.2.2.2.2.2.2.2.1, KX.out.2.2.2.2.2.2.2.2.1, KX.out.2.2.2.2.2.2.2.2.2.1, KX.out.2.2.2.2.2.2.2.2.2.2.1, KX.out.2.2.2.2.2.2.2.2.2.2.2⟩
              clear hK K
              (try simp only [Act.put])
              (try simp only [List.setIfInBounds_toArray])
              (try simp only [List.set_cons_succ])
              (try simp only [List.set_cons_zero])
              refine wpAnyH_done (by kernel_rfl) ?_ _
              clear hHeld
              go_wp2
              go_roundw
              case rel => exact ⟨k + 1, acc.set j (z0, (z1, z2, z3), y4, z5 || y5), by omega, by go_num, NS.out, MF.out, by rw [List.length_set, HML.out]; omega, by rw [List.length_set, HML.out]; omega, NB.out⟩
              case measure => simp [intOf]; omega
        · obtain rfl : k = n2 := by omega
          rw [List.drop_of_length_le (by rw [HN2.out]; exact Nat.le_refl _)] at MF
          have MF2 : Hid (mergeFrom A A B = some acc) := Lib.hid MF.out.symm
          rw [MF2.out] at HR
          simp only at HR
          rw [HML.out] at HR
          clear MF MF2
          by_cases h32 : 32 < mn
          · have h32' : (32 : Int) < mn := by omega
            rw [if_pos h32] at HR
            go_wp2_with fail
            go_ret2
            exact ⟨.slice none 0 0, by rw [← HR.out]; try rfl, by rw [← HR.out]; exact SK.nil _ _ _, BB.out⟩
          · have h32' : ¬ (32 : Int) < mn := by omega
            rw [if_neg h32] at HR
            have SO := Lib.hid (SRT.out _ acc wr M.out.sk (by rw [HML.out]; have := HNN.out; omega))
            go_wp2_with fail
            refine SO.out.mono ?_
            rintro e w9 ⟨x, rfl, hx, hb⟩
            obtain ⟨xa, xc, rfl, _⟩ := hx.form
            replace BB := Lib.hid (BB.out.trans (hb.mono BB.out.size))
            have XX := Lib.hid hx.sk
            clear hb hx SO
            go_wp2_with fail
            go_ret2
            refine ⟨.slice xa (srt acc).length xc, ?_, ?_, BB.out⟩
            · rw [← HR.out]; try rfl
            · rw [← HR.out]; exact XX.out
end Go.Proofs.YtjphhfgomlchoaaDoor
