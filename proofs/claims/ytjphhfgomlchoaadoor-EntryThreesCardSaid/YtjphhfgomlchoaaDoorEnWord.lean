/- What word.Text answers, for every word; strconv at these numbers. -/
import Derived.Test.YtjphhfgomlchoaaDoorEnSmall
import Derived.Test.YtjphhfgomlchoaaDoorEnShelf
import Derived.Laws.BitsAllLaws
import Derived.Laws.IdiomStrings
import Derived.Lib.Walk
import Derived.Lib.ItoaMem
import Derived.Lib.AppendIntMem
import Derived.Lib.ItoaLen
namespace Go.Proofs.YtjphhfgomlchoaaDoor
open Go.ChangeShapes Go.WideShapes Go.ChangeAt Go.RowKit
theorem ret2 {k1 k2 : IntKind} {a b c d : Int} (h : a = c) (h' : b = d) : Ending.returned (.tuple #[.int k1 a, .int k2 b]) = .returned (.tuple #[.int k1 c, .int k2 d]) := by rw [h, h']

set_option maxHeartbeats 400000 in
theorem ref_ok (a b : Int) (w : World) (h1 : 1 ≤ a) (h2 : a ≤ 72) (h3 : 1 ≤ b) (h4 : b ≤ 16777215) :
    Calls Tryd.prog 67 #[.int .i64 a, .int .i64 b] w fun e w' => e = .returned (.tuple #[.int .u32 (a * 16777216 + b), .int .i64 0]) ∧ w = w' := by
  go_enter Tryd.func67, Tryd.ntmps67
  go_wp2
  go_ret2
  exact ⟨rfl, rfl⟩

set_option maxHeartbeats 400000 in
theorem ref_no (a b : Int) (w : World) (h : ¬ (1 ≤ a ∧ a ≤ 72 ∧ 1 ≤ b ∧ b ≤ 16777215)) :
    Calls Tryd.prog 67 #[.int .i64 a, .int .i64 b] w fun e w' => e = .returned (.tuple #[.int .u32 0, .int .i64 3]) ∧ w = w' := by
  by_cases h1 : a < 1
  · go_enter Tryd.func67, Tryd.ntmps67
    go_wp2
    go_ret2
    exact ⟨rfl, rfl⟩
  · by_cases h2 : 72 < a
    · go_enter Tryd.func67, Tryd.ntmps67
      go_wp2
      go_ret2
      exact ⟨rfl, rfl⟩
    · by_cases h3 : b < 1
      · go_enter Tryd.func67, Tryd.ntmps67
        go_wp2
        go_ret2
        exact ⟨rfl, rfl⟩
      · have h4 : 16777215 < b := by omega
        clear h
        go_enter Tryd.func67, Tryd.ntmps67
        go_wp2
        go_ret2
        exact ⟨rfl, rfl⟩

/-- A reference is valid. -/
def Good (r : Int) : Prop := 1 ≤ r / 16777216 ∧ r / 16777216 ≤ 72 ∧ 1 ≤ r % 16777216

theorem mask (r : Int) (h0 : 0 ≤ r) (h1 : r < 4294967296) : bits .and .u32 r 16777215 = r % 16777216 := by
  rw [u32_and r 16777215 h0 h1 (by omega) (by omega)]
  have : (16777215 : Int).toNat = 2 ^ 24 - 1 := by decide
  rw [this, Nat.and_two_pow_sub_one_eq_mod]
  omega

set_option maxHeartbeats 400000 in
theorem who_ok (r : Int) (w : World) (h0 : 0 ≤ r) (h1 : r < 4294967296) (h : Good r) :
    Calls Tryd.prog 60 #[.int .u32 r] w fun e w' => e = .returned (.tuple #[.int .i64 (r / 16777216), .int .i64 (r % 16777216)]) ∧ w = w' := by
  obtain ⟨g1, g2, g3⟩ := h
  have hm := mask r h0 h1
  have g4 : r % 16777216 ≤ 16777215 := by omega
  go_enter Tryd.func60, Tryd.ntmps60
  go_wp2_with fail
  refine (ref_ok _ _ _ g1 g2 g3 g4).mono ?_
  rintro e w' ⟨rfl, rfl⟩
  go_wp2
  go_ret2
  exact ⟨rfl, rfl⟩

set_option maxHeartbeats 400000 in
theorem who_no (r : Int) (w : World) (h0 : 0 ≤ r) (h1 : r < 4294967296) (h : ¬ Good r) :
    Calls Tryd.prog 60 #[.int .u32 r] w fun e w' => e = .returned (.tuple #[.int .i64 0, .int .i64 0]) ∧ w = w' := by
  have g : ¬ (1 ≤ r / 16777216 ∧ r / 16777216 ≤ 72 ∧ 1 ≤ r % 16777216 ∧ r % 16777216 ≤ 16777215) := fun g => h ⟨g.1, g.2.1, g.2.2.1⟩
  have hm := mask r h0 h1
  have G := Lib.hid g
  clear g h
  go_enter Tryd.func60, Tryd.ntmps60
  go_wp2_with fail
  refine (ref_no _ _ _ G.out).mono ?_
  rintro e w' ⟨rfl, rfl⟩
  go_wp2
  go_ret2
  exact ⟨rfl, rfl⟩

set_option maxHeartbeats 400000 in
theorem valid_ok (r : Int) (w : World) (h0 : 0 ≤ r) (h1 : r < 4294967296) (h : Good r) :
    Calls Tryd.prog 64 #[.int .u32 r] w fun e w' => e = .returned (.bool true) ∧ w = w' := by
  have hne : (r / 16777216 != 0) = true := by have := h.1; rw [bne_iff_ne]; omega
  go_enter Tryd.func64, Tryd.ntmps64
  go_wp2_with fail
  refine (who_ok _ _ h0 h1 h).mono ?_
  rintro e w' ⟨rfl, rfl⟩
  clear h
  go_wp2
  go_ret
  exact ⟨rfl, rfl⟩

set_option maxHeartbeats 400000 in
theorem valid_no (r : Int) (w : World) (h0 : 0 ≤ r) (h1 : r < 4294967296) (h : ¬ Good r) :
    Calls Tryd.prog 64 #[.int .u32 r] w fun e w' => e = .returned (.bool false) ∧ w = w' := by
  go_enter Tryd.func64, Tryd.ntmps64
  go_wp2_with fail
  refine (who_no _ _ h0 h1 h).mono ?_
  rintro e w' ⟨rfl, rfl⟩
  clear h
  go_wp2
  go_ret
  exact ⟨rfl, rfl⟩

set_option maxHeartbeats 400000 in
theorem kind_plain (v n : Int) (w : World) :
    Calls Tryd.prog 55 #[.agg #[.int .i64 v, .int .u32 n, .int .u32 0]] w fun e w' => e = .returned (.int .i64 0) ∧ w.alloc (.cells #[.int .i64 v, .int .u32 n, .int .u32 0] 39) = w' := by
  go_enter Tryd.func55, Tryd.ntmps55
  go_wp2
  go_ret
  exact ⟨rfl, rfl⟩

set_option maxHeartbeats 400000 in
theorem kind_inst (v n r : Int) (w : World) (h0 : 0 ≤ r) (h1 : r < 4294967296) (h : Good r) :
    Calls Tryd.prog 55 #[.agg #[.int .i64 v, .int .u32 n, .int .u32 r]] w fun e w' => e = .returned (.int .i64 1) ∧ w.alloc (.cells #[.int .i64 v, .int .u32 n, .int .u32 r] 39) = w' := by
  have hne : (r == 0) = false := by have := h.1; rw [beq_eq_false_iff_ne]; omega
  have H := Lib.hid h
  clear h
  go_enter Tryd.func55, Tryd.ntmps55
  go_wp2_with fail
  refine (valid_ok _ _ h0 h1 H.out).mono ?_
  rintro e w' ⟨rfl, rfl⟩
  go_wp2
  go_ret
  exact ⟨rfl, rfl⟩

set_option maxHeartbeats 400000 in
theorem kind_bad (v n r : Int) (w : World) (h0 : 0 ≤ r) (h1 : r < 4294967296) (hz : r ≠ 0) (h : ¬ Good r) :
    Calls Tryd.prog 55 #[.agg #[.int .i64 v, .int .u32 n, .int .u32 r]] w fun e w' => e = .returned (.int .i64 2) ∧ w.alloc (.cells #[.int .i64 v, .int .u32 n, .int .u32 r] 39) = w' := by
  have hne : (r == 0) = false := by rw [beq_eq_false_iff_ne]; exact hz
  have H := Lib.hid h
  clear h
  go_enter Tryd.func55, Tryd.ntmps55
  go_wp2_with fail
  refine (valid_no _ _ h0 h1 H.out).mono ?_
  rintro e w' ⟨rfl, rfl⟩
  go_wp2
  go_ret
  exact ⟨rfl, rfl⟩

theorem b2 (w : World) (a b : Obj) : Below w.heap.size w ((w.alloc a).alloc b) :=
  ((Below.refl _ _).alloc (Nat.le_refl _) _).alloc (by simp) _

/-- Block b holds a word. -/
def HasW (w : World) (b : Nat) (v n r : Int) : Prop :=
  (w.cell? ⟨b, 0, none⟩ = some (.int .i64 v) ∧ w.cell? ⟨b, 1, none⟩ = some (.int .u32 n) ∧ w.cell? ⟨b, 2, none⟩ = some (.int .u32 r)) ∧ b < w.heap.size

theorem HasW.new (w : World) (v n r : Int) : HasW (w.alloc (.cells #[.int .i64 v, .int .u32 n, .int .u32 r] 39)) w.heap.size v n r := by
  refine ⟨⟨?_, ?_, ?_⟩, by simp⟩ <;> simp [go_sem]

theorem HasW.below {W w1 : World} {b : Nat} {v n r : Int} (h : HasW W b v n r) (hb : Below W.heap.size W w1) : HasW w1 b v n r := by
  obtain ⟨⟨h0, h1, h2⟩, hl⟩ := h
  exact ⟨⟨(hb.cell hl).trans h0, (hb.cell hl).trans h1, (hb.cell hl).trans h2⟩, Nat.lt_of_lt_of_le hl hb.size⟩

theorem HasW.alloc {W : World} {b : Nat} {v n r : Int} (h : HasW W b v n r) (o : Obj) : HasW (W.alloc o) b v n r :=
  h.below ((Below.refl _ _).alloc (Nat.le_refl _) o)

section
open Go.RowKit Go.Sort Go.Lib
open Go.Lib in
theorem internal_strconv_small (i : Nat) (h : i < 100) (w : World) :
    Calls Tryd.prog 68 #[.int .i64 i] w fun e w' => e = .returned (.string ⟨(Lib.decDigits i).toArray⟩) ∧ w' = w := Any.internal_strconv_small Tryd.lays283 i h w
open Go.Lib in
theorem internal_strconv_numDigits (u : Nat) (h1 : 1 ≤ u) (h2 : u < 18446744073709551616) (w : World) (htab : Lib.TabIs Tryd.prog w "internal/strconv.uint64pow10" .u64 Lib.pow10Tab) :
    Calls Tryd.prog 69 #[.int .u64 u] w fun e w' => e = .returned (.int .i64 (Lib.nDigits u)) ∧ w' = w := Any.internal_strconv_numDigits Tryd.laysM284 u h1 h2 w htab
open Go.RowKit Go.Sort Go.Lib in
theorem internal_strconv_formatBase10 (blk off cap : Nat) (u : Nat) (d : Array UInt8) (w : World) (hH : Holds (fun (b : UInt8) => Value.int .u8 (b.toNat : Int)) w blk off d) (hu : u < 10 ^ d.size) (hu64 : u < 18446744073709551616) (hsz : d.size < 4611686018427387904) :
    Calls Tryd.prog 70 #[.slice (some ⟨blk, off, none⟩) d.size cap, .int .u64 u] w fun e w' =>
      e = .returned (.tuple #[]) ∧ ∃ (n v' : Nat) (dk : Array UInt8), w' = (putRow (fun (b : UInt8) => Value.int .u8 (b.toNat : Int)) w blk off dk).drewN n ∧ FmtInv d.size u 0 v' dk := Any.internal_strconv_formatBase10 Tryd.lays285 blk off cap u d w hH hu hu64 hsz
open Go.RowKit Go.Sort Go.Lib in
theorem strconv_Itoa (n : Int) (h0 : -9223372036854775808 ≤ n) (h1 : n ≤ 9223372036854775807) (w : World) (htab : Lib.TabIs Tryd.prog w "internal/strconv.uint64pow10" .u64 Lib.pow10Tab) :
    Calls Tryd.prog 46 #[.int .i64 n] w fun e w' => e = .returned (.string ⟨(Lib.itoa n).toArray⟩) ∧ ∃ k os, w' = grow (w.drewN k) os := Any.strconv_Itoa Tryd.laysM171 n h0 h1 w htab
open Go.RowKit Go.Sort Go.Lib in
theorem strconv_FormatInt_10 (n : Int) (h0 : -9223372036854775808 ≤ n) (h1 : n ≤ 9223372036854775807) (w : World) (htab : Lib.TabIs Tryd.prog w "internal/strconv.uint64pow10" .u64 Lib.pow10Tab) :
    Calls Tryd.prog 48 #[.int .i64 n, .int .i64 10] w fun e w' => e = .returned (.string ⟨(Lib.itoa n).toArray⟩) ∧ ∃ k os, w' = grow (w.drewN k) os := Any.strconv_FormatInt_10 Tryd.laysM173 n h0 h1 w htab

/-- The table of powers of ten lies where the library reads it. -/
def Tab (w : World) : Prop := Lib.TabIs Tryd.prog w "internal/strconv.uint64pow10" .u64 Lib.pow10Tab
theorem Tab.below {w w' : World} (h : Tab w) (hb : Below w.heap.size w w') : Tab w' := Lib.tabBelow_of_tabIs h w' hb
theorem Tab.alloc {w : World} (h : Tab w) (o : Obj) : Tab (w.alloc o) := h.below ((Below.refl _ _).alloc (Nat.le_refl _) o)

set_option maxRecDepth 100000 in
set_option maxHeartbeats 1600000 in
/-- internal/strconv.FormatUint at base 10. -/
theorem ifmtUint (u : Nat) (hu64 : u < 18446744073709551616) (w : World) (htab : Tab w) :
    Calls Tryd.prog 66 #[.int .u64 u, .int .i64 10] w fun e w' => e = .returned (.string ⟨(Lib.decDigits u).toArray⟩) ∧ Below w.heap.size w w' := by
  have H := Lib.hid htab
  clear htab
  by_cases hs : u < 100
  · go_enter Tryd.func66, Tryd.ntmps66
    go_wp2_with fail
    refine (internal_strconv_small u hs _).mono ?_
    rintro e w' ⟨rfl, rfl⟩
    go_wp2
    go_ret
    exact ⟨rfl, Below.refl _ _⟩
  · have hu1 : 1 ≤ u := by omega
    have hnd20 : Lib.nDigits u ≤ 20 := Lib.nDigits_le20 u hu64
    have hal : Tryd.prog.arrayLen 100 = 24 := by simp [Program.arrayLen, Tryd.underlying100]
    have hsl1 : ∀ W, (Instr.sliceAt 100 (.pointer (some ⟨w.heap.size, 0, none⟩)) none (some (.int .i64 (Lib.nDigits u : Int))) none).run Tryd.prog W = .ok (.slice (some ⟨w.heap.size, 0, none⟩) (Lib.nDigits u) 24) W := fun W => by
      have u5 := Tryd.sizeOf5
      rw [run_sliceAt_array_h W 100 ⟨w.heap.size, 0, none⟩ (by simp [Program.arrayLen, Program.elem, Tryd.underlying100]) .i64 (Lib.nDigits u : Int) (by omega) (by rw [hal]; omega)]
      simp [Program.elem, Program.arrayLen, Tryd.underlying100, go_sem, u5]
    have hH0 := Lib.holds_zero0 w 100 (Lib.nDigits u) (by omega)
    have hfmt := internal_strconv_formatBase10 w.heap.size 0 24 u (Array.replicate (Lib.nDigits u) 0) (w.alloc (.cells Lib.zeros24 100)) hH0 (by rw [Array.size_replicate]; exact Lib.lt_pow_nDigits u) hu64 (by rw [Array.size_replicate]; omega)
    rw [Array.size_replicate] at hfmt
    have HH0 := Lib.hid hH0
    clear hH0 hal
    go_enter Tryd.func66, Tryd.ntmps66
    go_wp2_with fail
    refine (internal_strconv_numDigits u hu1 hu64 _ (H.out.alloc _)).mono ?_
    rintro e w' ⟨rfl, rfl⟩
    go_wp2_with fail
    refine hfmt.mono ?_
    rintro e w' ⟨rfl, k, v', dk, rfl, hF⟩
    have hcv : (convert 78 9 (.slice (some ⟨w.heap.size, 0, none⟩) (Lib.nDigits u) 24)).run Tryd.prog ((putRow (fun (b : UInt8) => Value.int .u8 (b.toNat : Int)) (w.alloc (.cells Lib.zeros24 100)) w.heap.size 0 dk).drewN k) = .ok (.string ⟨(Lib.decDigits u).toArray⟩) ((putRow (fun (b : UInt8) => Value.int .u8 (b.toNat : Int)) (w.alloc (.cells Lib.zeros24 100)) w.heap.size 0 dk).drewN k) := by
      have h := run_convert_bytes_back (P := Tryd.prog) ((putRow (fun (b : UInt8) => Value.int .u8 (b.toNat : Int)) (w.alloc (.cells Lib.zeros24 100)) w.heap.size 0 dk).drewN k) 78 9 5 ⟨w.heap.size, 0, none⟩ 24 (Lib.decDigits u) Tryd.underlying78 Tryd.underlying5 Tryd.underlying9 (fun j hj => by
        rw [Lib.row_is_numeral hF j hj, Lib.add_plain, World.cell?_drewN]
        exact cell?_putRow (fun (b : UInt8) => Value.int .u8 (b.toNat : Int)) _ w.heap.size 0 _ dk HH0.out (by rw [hF.size, Array.size_replicate]) j (by rw [hF.size]; rw [Lib.decDigits_length] at hj; exact hj))
      rw [Lib.decDigits_length] at h
      exact h
    clear hfmt
    go_wp2
    go_ret
    obtain ⟨os, eo⟩ := Lib.fin_at w (.cells Lib.zeros24 100) dk k 0
    refine ⟨rfl, ?_⟩
    rw [eo]
    exact Lib.below_grow _ w (Nat.le_refl _) k os

set_option maxHeartbeats 400000 in
theorem fmtUint (u : Nat) (hu64 : u < 18446744073709551616) (w : World) (htab : Tab w) :
    Calls Tryd.prog 59 #[.int .u64 u, .int .i64 10] w fun e w' => e = .returned (.string ⟨(Lib.decDigits u).toArray⟩) ∧ Below w.heap.size w w' := by
  have H := Lib.hid htab
  clear htab
  go_enter Tryd.func59, Tryd.ntmps59
  go_wp2_with fail
  refine (ifmtUint u hu64 _ H.out).mono ?_
  rintro e w' ⟨rfl, hb⟩
  go_wp2
  go_ret
  exact ⟨rfl, hb⟩

theorem fmtInt (n : Int) (h0 : -9223372036854775808 ≤ n) (h1 : n ≤ 9223372036854775807) (w : World) (htab : Tab w) :
    Calls Tryd.prog 48 #[.int .i64 n, .int .i64 10] w fun e w' => e = .returned (.string ⟨(Lib.itoa n).toArray⟩) ∧ Below w.heap.size w w' :=
  (strconv_FormatInt_10 n h0 h1 w htab).mono fun _ _ ⟨he, k, os, hw⟩ => ⟨he, hw ▸ Lib.below_grow _ w (Nat.le_refl _) k os⟩

theorem itoaC (n : Nat) (h1 : n ≤ 9223372036854775807) (w : World) (htab : Tab w) :
    Calls Tryd.prog 46 #[.int .i64 n] w fun e w' => e = .returned (.string ⟨(Lib.decDigits n).toArray⟩) ∧ Below w.heap.size w w' :=
  (strconv_Itoa n (by omega) (by omega) w htab).mono fun _ _ ⟨he, k, os, hw⟩ => ⟨by rw [← Lib.itoa_nonneg]; exact he, hw ▸ Lib.below_grow _ w (Nat.le_refl _) k os⟩


instance (r : Int) : Decidable (Good r) := by unfold Good; infer_instance

/-- The text form of a word, as bytes; nothing for a malformed word. -/
def textOf (v n r : Int) : List UInt8 :=
  if r = 0 then (if n = 0 then Lib.itoa v else Lib.itoa v ++ 46 :: Lib.decDigits n.toNat)
  else if Good r then Lib.itoa v ++ 46 :: (Lib.decDigits n.toNat ++ 35 :: (Lib.decDigits (r / 16777216).toNat ++ 58 :: Lib.decDigits (r % 16777216).toNat))
  else []

theorem join_inst (x n a b : List UInt8) : (ByteArray.mk x.toArray) ++ (ByteArray.mk #[46] ++ ByteArray.mk n.toArray) ++ (ByteArray.mk #[35] ++ ByteArray.mk a.toArray ++ ByteArray.mk #[58] ++ ByteArray.mk b.toArray) = ⟨(x ++ 46 :: (n ++ 35 :: (a ++ 58 :: b))).toArray⟩ := by
  simp [ByteArray.mk_append_mk]
theorem join_plain (x n : List UInt8) : (ByteArray.mk x.toArray) ++ (ByteArray.mk #[46] ++ ByteArray.mk n.toArray) = ⟨(x ++ 46 :: n).toArray⟩ := by
  simp [ByteArray.mk_append_mk]
theorem ret_str {a b : ByteArray} (h : a = b) : Ending.returned (.string a) = .returned (.string b) := by rw [h]

set_option maxHeartbeats 800000 in
theorem text_inst1 (v : Int) (n : Nat) (r : Int) (w : World) (v0 : -9223372036854775808 ≤ v) (v1 : v ≤ 9223372036854775807) (n1 : n < 4294967296) (hn : ((n : Int) != 0) = true) (h0 : 0 ≤ r) (h1 : r < 4294967296) (h : Good r) (htab : Tab w) :
    Calls Tryd.prog 47 #[.agg #[.int .i64 v, .int .u32 n, .int .u32 r]] w fun e w' => e = .returned (.string ⟨(Lib.itoa v ++ 46 :: (Lib.decDigits n ++ 35 :: (Lib.decDigits (r / 16777216).toNat ++ 58 :: Lib.decDigits (r % 16777216).toNat))).toArray⟩) ∧ Below w.heap.size w w' := by
  have G := Lib.hid h
  have H := Lib.hid htab
  obtain ⟨a, ha⟩ : ∃ a : Nat, r / 16777216 = a := ⟨(r / 16777216).toNat, by omega⟩
  obtain ⟨b, hb⟩ : ∃ b : Nat, r % 16777216 = b := ⟨(r % 16777216).toNat, by omega⟩
  have HA := Lib.hid ha
  have HB := Lib.hid hb
  have a1 : a ≤ 100 := by have := h.2.1; omega
  have b1 : b < 16777216 := by omega
  have lv := Lib.itoa_length_le v v0 v1
  have ln : (Lib.decDigits n).length ≤ 20 := by rw [Lib.decDigits_length]; exact Lib.nDigits_le20 n (by omega)
  have la : (Lib.decDigits a).length ≤ 20 := by rw [Lib.decDigits_length]; exact Lib.nDigits_le20 a (by omega)
  have lb : (Lib.decDigits b).length ≤ 20 := by rw [Lib.decDigits_length]; exact Lib.nDigits_le20 b (by omega)
  clear h htab ha hb
  go_enter Tryd.func47, Tryd.ntmps47
  go_wp2_with fail
  refine (kind_inst _ _ _ _ h0 h1 G.out).mono ?_
  rintro e w' ⟨rfl, rfl⟩
  go_wp2_with fail
  refine (fmtInt _ v0 v1 _ ((H.out.alloc _).alloc _)).mono ?_
  rintro e w1 ⟨rfl, hb1⟩
  have P1 := Lib.hid (((HasW.new w v n r).alloc _).below hb1)
  have T1 := Lib.hid (((H.out.alloc _).alloc _).below hb1)
  have B1 := Lib.hid ((b2 w _ _).trans (hb1.mono (by simp; omega)))
  clear hb1 H
  obtain ⟨⟨p0, p1, p2⟩, pl⟩ := P1.out
  go_wp2_with fail
  refine (fmtUint n (by omega) _ T1.out).mono ?_
  rintro e w2 ⟨rfl, hb2⟩
  have P2 := Lib.hid (P1.out.below hb2)
  have T2 := Lib.hid (T1.out.below hb2)
  have B2 := Lib.hid (B1.out.trans (hb2.mono B1.out.size))
  clear hb2 p0 p1 p2 pl P1 T1 B1
  obtain ⟨⟨p0, p1, p2⟩, pl⟩ := P2.out
  go_wp2_with fail
  refine (who_ok _ _ h0 h1 G.out).mono ?_
  rintro e w' ⟨rfl, rfl⟩
  rw [HA.out, HB.out]
  clear p0 p1 p2 pl P2
  go_wp2_with fail
  refine (itoaC a (by omega) _ T2.out).mono ?_
  rintro e w3 ⟨rfl, hb3⟩
  have T3 := Lib.hid (T2.out.below hb3)
  have B3 := Lib.hid (B2.out.trans (hb3.mono B2.out.size))
  clear hb3 T2 B2
  go_wp2_with fail
  refine (itoaC b (by omega) _ T3.out).mono ?_
  rintro e w4 ⟨rfl, hb4⟩
  have B4 := Lib.hid (B3.out.trans (hb4.mono B3.out.size))
  clear hb4 T3 B3
  go_wp2
  go_ret
  refine ⟨ret_str ?_, B4.out⟩
  rw [HA.out, HB.out]
  exact join_inst _ _ _ _

set_option maxHeartbeats 800000 in
theorem text_inst0 (v : Int) (n : Nat) (r : Int) (w : World) (v0 : -9223372036854775808 ≤ v) (v1 : v ≤ 9223372036854775807) (n1 : n < 4294967296) (hn : ((n : Int) != 0) = false) (h0 : 0 ≤ r) (h1 : r < 4294967296) (h : Good r) (htab : Tab w) :
    Calls Tryd.prog 47 #[.agg #[.int .i64 v, .int .u32 n, .int .u32 r]] w fun e w' => e = .returned (.string ⟨(Lib.itoa v ++ 46 :: (Lib.decDigits n ++ 35 :: (Lib.decDigits (r / 16777216).toNat ++ 58 :: Lib.decDigits (r % 16777216).toNat))).toArray⟩) ∧ Below w.heap.size w w' := by
  have G := Lib.hid h
  have H := Lib.hid htab
  obtain ⟨a, ha⟩ : ∃ a : Nat, r / 16777216 = a := ⟨(r / 16777216).toNat, by omega⟩
  obtain ⟨b, hb⟩ : ∃ b : Nat, r % 16777216 = b := ⟨(r % 16777216).toNat, by omega⟩
  have HA := Lib.hid ha
  have HB := Lib.hid hb
  have a1 : a ≤ 100 := by have := h.2.1; omega
  have b1 : b < 16777216 := by omega
  have lv := Lib.itoa_length_le v v0 v1
  have ln : (Lib.decDigits n).length ≤ 20 := by rw [Lib.decDigits_length]; exact Lib.nDigits_le20 n (by omega)
  have la : (Lib.decDigits a).length ≤ 20 := by rw [Lib.decDigits_length]; exact Lib.nDigits_le20 a (by omega)
  have lb : (Lib.decDigits b).length ≤ 20 := by rw [Lib.decDigits_length]; exact Lib.nDigits_le20 b (by omega)
  clear h htab ha hb
  go_enter Tryd.func47, Tryd.ntmps47
  go_wp2_with fail
  refine (kind_inst _ _ _ _ h0 h1 G.out).mono ?_
  rintro e w' ⟨rfl, rfl⟩
  go_wp2_with fail
  refine (fmtInt _ v0 v1 _ ((H.out.alloc _).alloc _)).mono ?_
  rintro e w1 ⟨rfl, hb1⟩
  have P1 := Lib.hid (((HasW.new w v n r).alloc _).below hb1)
  have T1 := Lib.hid (((H.out.alloc _).alloc _).below hb1)
  have B1 := Lib.hid ((b2 w _ _).trans (hb1.mono (by simp; omega)))
  clear hb1 H
  obtain ⟨⟨p0, p1, p2⟩, pl⟩ := P1.out
  go_wp2_with fail
  refine (fmtUint n (by omega) _ T1.out).mono ?_
  rintro e w2 ⟨rfl, hb2⟩
  have P2 := Lib.hid (P1.out.below hb2)
  have T2 := Lib.hid (T1.out.below hb2)
  have B2 := Lib.hid (B1.out.trans (hb2.mono B1.out.size))
  clear hb2 p0 p1 p2 pl P1 T1 B1
  obtain ⟨⟨p0, p1, p2⟩, pl⟩ := P2.out
  go_wp2_with fail
  refine (who_ok _ _ h0 h1 G.out).mono ?_
  rintro e w' ⟨rfl, rfl⟩
  rw [HA.out, HB.out]
  clear p0 p1 p2 pl P2
  go_wp2_with fail
  refine (itoaC a (by omega) _ T2.out).mono ?_
  rintro e w3 ⟨rfl, hb3⟩
  have T3 := Lib.hid (T2.out.below hb3)
  have B3 := Lib.hid (B2.out.trans (hb3.mono B2.out.size))
  clear hb3 T2 B2
  go_wp2_with fail
  refine (itoaC b (by omega) _ T3.out).mono ?_
  rintro e w4 ⟨rfl, hb4⟩
  have B4 := Lib.hid (B3.out.trans (hb4.mono B3.out.size))
  clear hb4 T3 B3
  go_wp2
  go_ret
  refine ⟨ret_str ?_, B4.out⟩
  rw [HA.out, HB.out]
  exact join_inst _ _ _ _

set_option maxHeartbeats 800000 in
theorem text_plain1 (v : Int) (n : Nat) (w : World) (v0 : -9223372036854775808 ≤ v) (v1 : v ≤ 9223372036854775807) (n1 : n < 4294967296) (hn : ((n : Int) != 0) = true) (htab : Tab w) :
    Calls Tryd.prog 47 #[.agg #[.int .i64 v, .int .u32 n, .int .u32 0]] w fun e w' => e = .returned (.string ⟨(Lib.itoa v ++ 46 :: Lib.decDigits n).toArray⟩) ∧ Below w.heap.size w w' := by
  have H := Lib.hid htab
  have lv := Lib.itoa_length_le v v0 v1
  have ln : (Lib.decDigits n).length ≤ 20 := by rw [Lib.decDigits_length]; exact Lib.nDigits_le20 n (by omega)
  clear htab
  go_enter Tryd.func47, Tryd.ntmps47
  go_wp2_with fail
  refine (kind_plain _ _ _).mono ?_
  rintro e w' ⟨rfl, rfl⟩
  go_wp2_with fail
  refine (fmtInt _ v0 v1 _ ((H.out.alloc _).alloc _)).mono ?_
  rintro e w1 ⟨rfl, hb1⟩
  have P1 := Lib.hid (((HasW.new w v n 0).alloc _).below hb1)
  have T1 := Lib.hid (((H.out.alloc _).alloc _).below hb1)
  have B1 := Lib.hid ((b2 w _ _).trans (hb1.mono (by simp; omega)))
  clear hb1 H
  obtain ⟨⟨p0, p1, p2⟩, pl⟩ := P1.out
  go_wp2_with fail
  refine (fmtUint n (by omega) _ T1.out).mono ?_
  rintro e w2 ⟨rfl, hb2⟩
  have B2 := Lib.hid (B1.out.trans (hb2.mono B1.out.size))
  clear hb2 p0 p1 p2 pl P1 T1 B1
  go_wp2
  go_ret
  exact ⟨ret_str (join_plain _ _), B2.out⟩

set_option maxHeartbeats 800000 in
theorem text_plain0 (v : Int) (w : World) (v0 : -9223372036854775808 ≤ v) (v1 : v ≤ 9223372036854775807) (htab : Tab w) :
    Calls Tryd.prog 47 #[.agg #[.int .i64 v, .int .u32 0, .int .u32 0]] w fun e w' => e = .returned (.string ⟨(Lib.itoa v).toArray⟩) ∧ Below w.heap.size w w' := by
  have H := Lib.hid htab
  clear htab
  go_enter Tryd.func47, Tryd.ntmps47
  go_wp2_with fail
  refine (kind_plain _ _ _).mono ?_
  rintro e w' ⟨rfl, rfl⟩
  go_wp2_with fail
  refine (fmtInt _ v0 v1 _ ((H.out.alloc _).alloc _)).mono ?_
  rintro e w1 ⟨rfl, hb1⟩
  have P1 := Lib.hid (((HasW.new w v 0 0).alloc _).below hb1)
  have B1 := Lib.hid ((b2 w _ _).trans (hb1.mono (by simp; omega)))
  clear hb1 H
  obtain ⟨⟨p0, p1, p2⟩, pl⟩ := P1.out
  go_wp2
  go_ret
  exact ⟨rfl, B1.out⟩

set_option maxHeartbeats 800000 in
theorem text_bad (v n r : Int) (w : World) (h0 : 0 ≤ r) (h1 : r < 4294967296) (hz : r ≠ 0) (h : ¬ Good r) :
    Calls Tryd.prog 47 #[.agg #[.int .i64 v, .int .u32 n, .int .u32 r]] w fun e w' => e = .returned (.string ⟨#[]⟩) ∧ Below w.heap.size w w' := by
  have G := Lib.hid h
  have Z := Lib.hid hz
  clear h hz
  go_enter Tryd.func47, Tryd.ntmps47
  go_wp2_with fail
  refine (kind_bad _ _ _ _ h0 h1 Z.out G.out).mono ?_
  rintro e w' ⟨rfl, rfl⟩
  go_wp2
  go_ret
  exact ⟨rfl, b2 _ _ _⟩

theorem text_any (v n r : Int) (w : World) (v0 : -9223372036854775808 ≤ v) (v1 : v ≤ 9223372036854775807) (n0 : 0 ≤ n) (n1 : n < 4294967296) (h0 : 0 ≤ r) (h1 : r < 4294967296) (htab : Tab w) :
    Calls Tryd.prog 47 #[.agg #[.int .i64 v, .int .u32 n, .int .u32 r]] w fun e w' => e = .returned (.string ⟨(textOf v n r).toArray⟩) ∧ Below w.heap.size w w' := by
  obtain ⟨n, rfl⟩ := Int.eq_ofNat_of_zero_le n0
  by_cases hz : r = 0
  · subst hz
    by_cases hn : n = 0
    · subst hn
      have e : textOf v (0 : Nat) 0 = Lib.itoa v := by simp [textOf]
      rw [e]; exact text_plain0 v w v0 v1 htab
    · have e : textOf v n 0 = Lib.itoa v ++ 46 :: Lib.decDigits n := by simp [textOf, hn]
      rw [e]; exact text_plain1 v n w v0 v1 (by omega) (by rw [bne_iff_ne]; omega) htab
  · by_cases hg : Good r
    · have e : textOf v n r = Lib.itoa v ++ 46 :: (Lib.decDigits n ++ 35 :: (Lib.decDigits (r / 16777216).toNat ++ 58 :: Lib.decDigits (r % 16777216).toNat)) := by simp [textOf, hz, hg]
      rw [e]
      by_cases hn : n = 0
      · exact text_inst0 v n r w v0 v1 (by omega) (by subst hn; rfl) h0 h1 hg htab
      · exact text_inst1 v n r w v0 v1 (by omega) (by rw [bne_iff_ne]; omega) h0 h1 hg htab
    · have e : textOf v n r = [] := by simp [textOf, hz, hg]
      rw [e]; exact text_bad v n r w h0 h1 hz hg

end
end Go.Proofs.YtjphhfgomlchoaaDoor
