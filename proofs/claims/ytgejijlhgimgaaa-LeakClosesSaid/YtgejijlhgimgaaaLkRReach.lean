/- Reach of the reference. -/
import Derived.Test.YtgejijlhgimgaaaLkReach
namespace Go.Proofs.Ytgejijlhgimgaaa
open Go.ChangeShapes Go.WideShapes Go.ChangeAt Go.RowKit Go.Maps

/-- The successors of i among the first k are known. -/
def SucK (N : List (List Int)) (i k : Nat) (got : List Int) : Prop := ∀ x ∈ (N.getD i []).take k, 0 ≤ x → x < N.length → x ∈ got
def SucN (N : List (List Int)) (i : Nat) (got : List Int) : Prop := ∀ j, j < i → (j : Int) ∈ got → SucK N j (N.getD j []).length got
/-- Nothing was found and P holds, or more numbers are known, and the round's first list was not closed. -/
def Step (N : List (List Int)) (n : Nat) (a b : List Int) (P : Prop) : Prop := (b = a ∧ P) ∨ (cnt a n < cnt b n ∧ ¬ SucN N n a)
theorem Step.imp {N : List (List Int)} {n : Nat} {a b : List Int} {P Q : Prop} (h : Step N n a b P) (hq : b = a → P → Q) : Step N n a b Q := Or.imp (fun x => ⟨x.1, hq x.1 x.2⟩) id h
theorem Step.add {N : List (List Int)} {n i : Nat} {a b : List Int} {x : Int} {P : Prop} (h : Step N n a b P) (hin : i < n) (hi : (i : Int) ∈ b) (hx : x ∈ N.getD i []) (hx0 : 0 ≤ x) (hxn : x < n) (hn : N.length = n) (hnot : x ∉ b) {Q : Prop} : Step N n a (b ++ [x]) Q := by
  right
  have hc := cnt_add b x n hx0 hxn hnot
  rcases h with ⟨rfl, _⟩ | ⟨h1, h2⟩
  · refine ⟨by omega, fun hs => hnot (hs i hin hi x ?_ hx0 (by rw [hn]; exact hxn))⟩
    rwa [List.take_of_length_le (Nat.le_refl _)]
  · exact ⟨by omega, h2⟩
theorem cnt_mono {a b : List Int} (h : ∀ x ∈ a, x ∈ b) (n : Nat) : cnt a n ≤ cnt b n := by
  induction n with
  | zero => exact Nat.le_refl _
  | succ n ih =>
    simp only [cnt]
    by_cases h1 : (n : Int) ∈ a
    · rw [if_pos h1, if_pos (h _ h1)]; omega
    · rw [if_neg h1]; split <;> omega
/-- What a round holds: the state of the search. -/
structure RS (w wr : World) (roots : List Int) (N : List (List Int)) (R : Nat) (gv : Value) (got : List Int) : Prop where
  row : Row w.heap.size wr gv got
  got : Got roots N R got
  bel : Below w.heap.size w wr
theorem RS.len {w wr : World} {roots : List Int} {N : List (List Int)} {R : Nat} {gv : Value} {got : List Int} (h : RS w wr roots N R gv got) : got.length ≤ R + N.length := by
  have := h.got.room
  have := cnt_le got N.length
  omega
set_option maxRecDepth 100000 in
set_option maxHeartbeats 6400000 in
theorem rreach_any (v u : Value) (roots : List Int) (N : List (List Int)) (w : World) (hl : roots.length + N.length ≤ 1000) (hv : IS w v roots) (hu : NS w u N) (hb8 : ∀ i, (N.getD i []).length ≤ 1000) :
    Calls Try.prog 11 #[v, u] w (Set w (Rch roots N) 1000) := by
  obtain ⟨a, cap, rfl, hcap, h⟩ := hv
  have HR := Lib.hid h
  have HU := Lib.hid hu
  have HLB := Lib.hid hb8
  obtain ⟨a2, cap2, rfl, h2⟩ := hu
  clear h h2 hcap hb8
  obtain ⟨n, hn⟩ : ∃ n, N.length = n := ⟨_, rfl⟩
  obtain ⟨R, hR⟩ : ∃ n, roots.length = n := ⟨_, rfl⟩
  rw [hn] at HU hl ⊢
  rw [hR] at hl ⊢
  have HN := Lib.hid hn
  have HRL := Lib.hid hR
  clear hn hR
  go_enter Try.func11, Try.ntmps11
  go_wp2_with fail
  go_loopw [5, 6] (fun gv iv wr => ∃ k : Nat, ∃ got, k ≤ R ∧ iv = .int .i64 k ∧ Row w.heap.size wr gv got ∧ (∀ x ∈ got, Rch roots N x) ∧ (∀ x ∈ roots.take k, 0 ≤ x → x < N.length → x ∈ got) ∧ got.length ≤ k ∧ Below w.heap.size w wr) (fun _ iv _ => R - (intOf iv).toNat)
  case atStart => exact ⟨0, [], by omega, rfl, Row.nil _ _, by simp, by simp, by simp, Below.refl _ _⟩
  case round =>
    obtain ⟨k, got, hk, rfl, hrow, hs, hr, hlen, hb⟩ := hrel
    have RO := Lib.hid hrow
    have BB := Lib.hid hb
    have HS := Lib.hid hs
    have HG := Lib.hid hr
    have hsz := hb.size
    clear hb hrow hs hr
    by_cases hlt : k < R
    · rcases HR.out with h | ⟨b, off, rfl, hbl, hc⟩
      · rw [h] at HRL; have := HRL.out; simp at this; omega
      have c0 := hc k (by rw [HRL.out]; exact hlt)
      have HT := Lib.hid (take_succ_getDI roots (k := k) (by rw [HRL.out]; exact hlt))
      have HX := Lib.hid (getD_mem (L := roots) (k := k) (by rw [HRL.out]; exact hlt))
      rw [← BB.out.cell hbl] at c0
      clear hc
      obtain ⟨x, hx⟩ : ∃ y, roots.getD k 0 = y := ⟨_, rfl⟩
      rw [hx] at c0 HT HX
      clear hx
      by_cases hx0 : 0 ≤ x
      · by_cases hxN : x < n
        · have S2 := Lib.hid (IS.ofBox (Box.new wr #[.int .i64 x] 3 rfl) (L := [x]) (n := 1) (cap := 1) rfl rfl (Nat.le_refl _))
          have A2 := Lib.hid (BB.out.alloc hsz (.cells #[.int .i64 x] 3))
          have R1 := Lib.hid (RO.out.below (below1 wr (.cells #[.int .i64 x] 3)))
          go_wp2_with (first | (at_builtin; refine wpList_app' _ rfl (.tmp 31) (.tmp 36) rfl rfl A2.out R1.out rfl S2.out (by simp; omega) ?_; intro v2 w2 r2 b2 g2; have R2 := Lib.hid r2; have B5 := Lib.hid b2; clear r2 b2 g2) | fail)
          go_roundw
          case rel =>
            refine ⟨k + 1, _, by omega, by go_num, R2.out, fun y hy => ?_, fun y hy p q => ?_, by simp; omega, B5.out⟩
            · rcases List.mem_append.1 hy with hy | hy
              · exact HS.out y hy
              · simp at hy; subst hy; exact .root HX.out hx0 (by rw [HN.out]; exact hxN)
            · rw [HT.out] at hy
              rcases List.mem_append.1 hy with hy | hy
              · exact List.mem_append.2 (.inl (HG.out y hy p q))
              · exact List.mem_append.2 (.inr hy)
          case measure => simp [intOf]; omega
        · go_wp2_with fail
          go_roundw
          case rel =>
            refine ⟨k + 1, got, by omega, by go_num, RO.out, HS.out, fun y hy p q => ?_, by omega, BB.out⟩
            rw [HT.out] at hy
            rcases List.mem_append.1 hy with hy | hy
            · exact HG.out y hy p q
            · simp at hy; subst hy; rw [HN.out] at q; exact absurd q hxN
          case measure => simp [intOf]; omega
      · go_wp2_with fail
        go_roundw
        case rel =>
          refine ⟨k + 1, got, by omega, by go_num, RO.out, HS.out, fun y hy p q => ?_, by omega, BB.out⟩
          rw [HT.out] at hy
          rcases List.mem_append.1 hy with hy | hy
          · exact HG.out y hy p q
          · simp at hy; subst hy; exact absurd p hx0
        case measure => simp [intOf]; omega
    · obtain rfl : k = R := by omega
      have G0 : Hid (Got roots N k got) := Lib.hid ⟨HS.out, fun x hx p q => HG.out x (by rw [List.take_of_length_le (by rw [HRL.out]; exact Nat.le_refl _)]; exact hx) p q, by omega⟩
      clear HS HG hlen
      go_wp2_with fail
      go_loopw [5, 7] (fun gv nv wr => ∃ r : Nat, ∃ got, r ≤ n + 1 ∧ nv = .int .i64 r ∧ RS w wr roots N k gv got ∧ (SucN N n got ∨ r ≤ cnt got n)) (fun _ nv _ => n + 1 - (intOf nv).toNat)
      case atStart => exact ⟨0, got, by omega, rfl, ⟨RO.out, G0.out, BB.out⟩, .inr (Nat.zero_le _)⟩
      case round =>
        obtain ⟨r, got, hr, rfl, hrs, hst⟩ := hrel
        have S := Lib.hid hrs
        have ST := Lib.hid hst
        have hlen := hrs.len
        rw [HN.out] at hlen
        have hsz := hrs.bel.size
        clear hrs hst RO BB G0
        by_cases hlt : r ≤ n
        · obtain ⟨g1, hg1⟩ : ∃ g, g = got := ⟨_, rfl⟩
          have HG1 := Lib.hid hg1
          clear hg1
          go_wp2_with fail
          go_loopw [5, 8] (fun gv iv wr => ∃ i : Nat, ∃ got, i ≤ n ∧ iv = .int .i64 i ∧ RS w wr roots N k gv got ∧ (∀ x ∈ g1, x ∈ got) ∧ Step N n g1 got (SucN N i g1)) (fun _ iv _ => n - (intOf iv).toNat)
          case atStart => exact ⟨0, got, by omega, rfl, S.out, by rw [HG1.out]; exact fun _ h => h, .inl ⟨HG1.out.symm, fun j hj => by omega⟩⟩
          case round =>
            obtain ⟨i, got2, hi, rfl, hrs, hsub, hst⟩ := hrel
            have S2 := Lib.hid hrs
            have SU := Lib.hid hsub
            have ST2 := Lib.hid hst
            have hlen := hrs.len
            rw [HN.out] at hlen
            have hsz := hrs.bel.size
            clear hrs hst hsub S
            by_cases hlt : i < n
            · rcases HU.out with ⟨a', cap', e, h2⟩
              injection e with e1 e2 e3
              subst e1 e3
              clear e2
              rcases h2 with h2 | ⟨b, off, e, hbl, hc⟩
              · rw [h2] at HN; have := HN.out; simp at this; omega
              subst e
              obtain ⟨u, hu1, hu2⟩ := hc i (by rw [HN.out]; exact hlt)
              have HU2 := Lib.hid hu2
              obtain ⟨au, cu, e, _, hal⟩ := hu2
              have HAL := Lib.hid hal
              clear hal
              obtain ⟨li, hli⟩ : ∃ l, (N.getD i []).length = l := ⟨_, rfl⟩
              rw [hli] at e
              subst e
              have hli2 : li ≤ 1000 := by have := HLB.out i; rw [hli] at this; exact this
              have HLI := Lib.hid hli
              have HU1 := Lib.hid hu1
              clear hli hc hu1
              have HA := Lib.hid (in_any _ got2 (i : Int) wr (by omega) S2.out.row.is)
              have HQ := Lib.hid (inL_iff got2 (i : Int))
              obtain ⟨rr, hrr⟩ : ∃ r, inL got2 (i : Int) = r := ⟨_, rfl⟩
              rw [hrr] at HA HQ
              clear hrr
              cases rr with
              | false =>
                have hnot : Hid ((i : Int) ∉ got2) := Lib.hid (fun hm => by have := HQ.out.2 hm; cases this)
                clear HQ
                go_wp2_with fail
                refine HA.out.mono ?_
                rintro e w' ⟨rfl, rfl⟩
                clear HA
                go_wp2_with fail
                go_roundw
                case rel =>
                  refine ⟨i + 1, got2, by omega, by go_num, S2.out, SU.out, ST2.out.imp fun e h j hj hm => ?_⟩
                  by_cases e2 : j = i
                  · subst e2; rw [e] at hnot; exact absurd hm hnot.out
                  · exact h j (by omega) hm
                case measure => simp [intOf]; omega
              | true =>
                have him := Lib.hid (HQ.out.1 rfl)
                clear HQ
                go_wp2_with fail
                refine HA.out.mono ?_
                rintro e w' ⟨rfl, rfl⟩
                clear HA
                go_wp2_with fail
                go_loopw [5, 9] (fun gv kv wr => ∃ j : Nat, ∃ got3, j ≤ li ∧ kv = .int .i64 j ∧ RS w wr roots N k gv got3 ∧ (∀ x ∈ g1, x ∈ got3) ∧ (i : Int) ∈ got3 ∧ Step N n g1 got3 (SucN N i g1 ∧ SucK N i j g1)) (fun _ kv _ => li - (intOf kv).toNat)
                case atStart => exact ⟨0, got2, by omega, rfl, S2.out, SU.out, him.out, ST2.out.imp fun _ h => ⟨h, fun x hx => by simp at hx⟩⟩
                case round =>
                  obtain ⟨j, got3, hj, rfl, hrs, hsub, hi3, hst⟩ := hrel
                  have S3 := Lib.hid hrs
                  have SU3 := Lib.hid hsub
                  have ST3 := Lib.hid hst
                  have HI3 := Lib.hid hi3
                  have hlen3 := hrs.len
                  rw [HN.out] at hlen3
                  have hsz3 := hrs.bel.size
                  have hu1 := HU1.out
                  rw [← hrs.bel.cell (p := ⟨b, off + i, none⟩) hbl] at hu1
                  clear hrs hst hsub hi3
                  by_cases hlt2 : j < li
                  · rcases HAL.out with h | ⟨bu, ou, e, hbu, hcu⟩
                    · rw [h] at HLI; have := HLI.out; simp at this; omega
                    subst e
                    have c0 := hcu j (by rw [HLI.out]; exact hlt2)
                    rw [← S3.out.bel.cell (p := ⟨bu, ou + j, none⟩) hbu] at c0
                    have HT := Lib.hid (take_succ_getDI (N.getD i []) (k := j) (by rw [HLI.out]; exact hlt2))
                    have HX := Lib.hid (getD_mem (L := N.getD i []) (k := j) (by rw [HLI.out]; exact hlt2))
                    clear hcu
                    obtain ⟨x, hx⟩ : ∃ y, (N.getD i []).getD j 0 = y := ⟨_, rfl⟩
                    rw [hx] at c0 HT HX
                    clear hx
                    by_cases hx0 : 0 ≤ x
                    · by_cases hxN : x < n
                      · have HA := Lib.hid (in_any _ got3 x wr (by omega) S3.out.row.is)
                        have HQ := Lib.hid (inL_iff got3 x)
                        obtain ⟨rr, hrr⟩ : ∃ r, inL got3 x = r := ⟨_, rfl⟩
                        rw [hrr] at HA HQ
                        clear hrr
                        cases rr with
                        | true =>
                          have hxm := Lib.hid (HQ.out.1 rfl)
                          clear HQ
                          go_wp2_with fail
                          refine HA.out.mono ?_
                          rintro e w' ⟨rfl, rfl⟩
                          clear HA
                          go_wp2_with fail
                          go_roundw
                          case rel =>
                            refine ⟨j + 1, got3, by omega, by go_num, S3.out, SU3.out, HI3.out, ST3.out.imp fun e h => ⟨h.1, fun y hy p q => ?_⟩⟩
                            rw [HT.out] at hy
                            rcases List.mem_append.1 hy with hy | hy
                            · exact h.2 y hy p q
                            · simp at hy; subst hy; rw [← e]; exact hxm.out
                          case measure => simp [intOf]; omega
                        | false =>
                          have hnot : Hid (x ∉ got3) := Lib.hid (fun hm => by have := HQ.out.2 hm; cases this)
                          clear HQ
                          have hgl : got3.length ≤ 2000 := by omega
                          have C2 := Lib.hid (IS.ofBox (Box.new wr #[.int .i64 x] 3 rfl) (L := [x]) (n := 1) (cap := 1) rfl rfl (Nat.le_refl _))
                          have A2 := Lib.hid (S3.out.bel.alloc hsz3 (.cells #[.int .i64 x] 3))
                          have R1 := Lib.hid (S3.out.row.below (below1 wr (.cells #[.int .i64 x] 3)))
                          go_wp2_with fail
                          refine HA.out.mono ?_
                          rintro e w' ⟨rfl, rfl⟩
                          clear HA
                          go_wp2_with (first | (at_builtin; refine wpList_app' _ rfl (.tmp 84) (.tmp 86) rfl rfl A2.out R1.out rfl C2.out (by simp; omega) ?_; intro v2 w2 r2 b2 g2; have R2 := Lib.hid r2; have B5 := Lib.hid b2; clear r2 b2 g2) | fail)
                          go_roundw
                          case rel =>
                            have hrc : Rch roots N x := .step (S3.out.got.sound _ HI3.out) (by rw [Int.toNat_natCast]; exact HX.out) hx0 (by rw [HN.out]; exact hxN)
                            exact ⟨j + 1, _, by omega, by go_num, ⟨R2.out, S3.out.got.add hrc hnot.out, B5.out⟩, fun y hy => List.mem_append.2 (.inl (SU3.out y hy)), List.mem_append.2 (.inl HI3.out), ST3.out.add hlt HI3.out HX.out hx0 hxN HN.out hnot.out⟩
                          case measure => simp [intOf]; omega
                      · go_wp2_with fail
                        go_roundw
                        case rel =>
                          refine ⟨j + 1, got3, by omega, by go_num, S3.out, SU3.out, HI3.out, ST3.out.imp fun e h => ⟨h.1, fun y hy p q => ?_⟩⟩
                          rw [HT.out] at hy
                          rcases List.mem_append.1 hy with hy | hy
                          · exact h.2 y hy p q
                          · simp at hy; subst hy; rw [HN.out] at q; exact absurd q hxN
                        case measure => simp [intOf]; omega
                    · go_wp2_with fail
                      go_roundw
                      case rel =>
                        refine ⟨j + 1, got3, by omega, by go_num, S3.out, SU3.out, HI3.out, ST3.out.imp fun e h => ⟨h.1, fun y hy p q => ?_⟩⟩
                        rw [HT.out] at hy
                        rcases List.mem_append.1 hy with hy | hy
                        · exact h.2 y hy p q
                        · simp at hy; subst hy; exact absurd p hx0
                      case measure => simp [intOf]; omega
                  · obtain rfl : j = li := by omega
                    go_wp2_with fail
                    go_roundw
                    case rel =>
                      refine ⟨i + 1, got3, by omega, by go_num, S3.out, SU3.out, ST3.out.imp fun e h q hq hm => ?_⟩
                      by_cases e2 : q = i
                      · subst e2; rw [HLI.out]; exact h.2
                      · exact h.1 q (by omega) hm
                    case measure => simp [intOf]; omega
            · obtain rfl : i = n := by omega
              go_wp2_with fail
              go_roundw
              case rel =>
                refine ⟨r + 1, got2, by omega, by go_num, S2.out, ?_⟩
                rcases ST2.out with ⟨e, h⟩ | ⟨h, h4⟩
                · left; rw [e]; exact h
                · have h3 := ST.out
                  rw [← HG1.out] at h3
                  rcases h3 with h3 | h3
                  · exact absurd h3 h4
                  · right; omega
              case measure => simp [intOf]; omega
        · have hcl := ST.out
          have hclosed : SucN N n got := by
            rcases hcl with h | h
            · exact h
            · have := cnt_le got n; omega
          clear hcl
          have HD := Lib.hid (S.out.got.done fun y hy x hx p q => by
            have hyr := (S.out.got.sound y hy).range
            rw [HN.out] at hyr
            refine hclosed y.toNat (by omega) (by rw [show ((y.toNat : Nat) : Int) = y by omega]; exact hy) x ?_ p q
            rwa [List.take_of_length_le (Nat.le_refl _)])
          clear hclosed
          have hg1 : got.length ≤ 1000 := by omega
          go_wp2_with fail
          refine (rising_any _ got wr hg1 S.out.row.is).mono ?_
          rintro e w1 ⟨z, S9, rfl, hrow, hinc, hmem, hlen2, hb⟩
          obtain ⟨az, cz, rfl, hcz⟩ := hrow.form
          have RR := Lib.hid hrow
          have B2 := Lib.hid hb
          have HMEM := Lib.hid hmem
          have HINC := Lib.hid hinc
          clear hmem hinc hrow hb hcz
          go_wp2_with fail
          go_ret
          exact ⟨_, S9, rfl, RR.out.mono hsz, HINC.out, fun x => by rw [HMEM.out x, HD.out x], by omega, S.out.bel.trans (B2.out.mono hsz)⟩
end Go.Proofs.Ytgejijlhgimgaaa
