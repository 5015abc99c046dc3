/- strings.IndexRune of the three marks, at every rune: it returns, and leaves the world below as it was. -/
import Derived.Test.YthcafhdokbejkaaDoorShelfb
import Derived.Test.YthcafhdokbejkaaDoorText
import Derived.WalkKit
import Derived.WalkSpells
import Derived.WalkLawsBesides
import Derived.Lib.Hide
import Derived.Laws.RangeString
import Derived.Laws.RangeAny
import Derived.WalkMore
import Derived.RegionTactic
import Derived.Deep.RegionHeld3
import Derived.Deep.QuietTactic
import Derived.BigQuiet
import Derived.ScopeJumps
namespace Go.Proofs.YthcafhdokbejkaaDoor
open Go.RowKit Go.Shelf

theorem enc2 (r : Int) (h0 : 128 ≤ r) (h1 : r < 2048) : ∃ x y : UInt8, Utf8.encode r = ⟨#[x, y]⟩ ∧ 128 ≤ y.toNat := by
  have hv : Utf8.valid r = true := by simp [Utf8.valid]; omega
  refine ⟨_, _, by simp only [Utf8.encode, hv, if_true]; rw [if_neg (by omega), if_pos (by omega)], ?_⟩
  rw [UInt8.toNat_ofNat']
  omega
theorem enc3 (r : Int) (hv : Utf8.valid r = true) (h0 : 2048 ≤ r) (h1 : r < 65536) : ∃ x y z : UInt8, Utf8.encode r = ⟨#[x, y, z]⟩ ∧ 128 ≤ z.toNat := by
  refine ⟨_, _, _, by simp only [Utf8.encode, hv, if_true]; rw [if_neg (by omega), if_neg (by omega), if_pos (by omega)], ?_⟩
  rw [UInt8.toNat_ofNat']
  omega
theorem enc4 (r : Int) (hv : Utf8.valid r = true) (h0 : 65536 ≤ r) : ∃ x y z u : UInt8, Utf8.encode r = ⟨#[x, y, z, u]⟩ := by
  exact ⟨_, _, _, _, by simp only [Utf8.encode, hv, if_true]; rw [if_neg (by omega), if_neg (by omega), if_neg (by omega)]⟩

theorem below_it (w : World) (s : ByteArray) (p : Nat) : Below w.heap.size w (w.iter s p) := by
  exact (Below.refl _ _).alloc (Nat.le_refl _) _

theorem idxByte (s : ByteArray) (c : Int) (w : World) : Calls Tryd.prog 65 #[.string s, .int .u8 c] w fun e w' => e = .returned (.int .i64 (Lib.indexByte s.data.toList c.toNat.toUInt8)) ∧ w' = w := Any.strings_IndexByte Tryd.lays137 s c w

set_option maxRecDepth 100000 in
set_option maxHeartbeats 1000000 in
theorem irune2 (r : Int) (w : World) (h0 : 128 ≤ r) (h1 : r < 2048) :
    Calls Tryd.prog 49 #[.string ⟨#[46, 35, 58]⟩, .int .i32 r] w fun e w' => e = .returned (.int .i64 (-1)) ∧ Below w.heap.size w w' := by
  have he : (r == 65533) = false := beq_eq_false_iff_ne.2 (by omega)
  have hv : Lib.validRune r = true := by simp [Lib.validRune]; omega
  obtain ⟨x, y, hx, hy⟩ := enc2 r h0 h1
  have hne : ((((⟨#[46, 35, 58]⟩ : ByteArray)[1]'(by decide)).toNat : Int) != (((⟨#[x, y]⟩ : ByteArray)[1]'(by simp [ByteArray.size])).toNat : Int)) = true := by
    show ((35 : Int) != (y.toNat : Int)) = true
    rw [bne_iff_ne]; omega
  have hib : Lib.indexByte [58] ((⟨#[x, y]⟩ : ByteArray)[1]'(by simp [ByteArray.size])) = -1 := by
    show Lib.indexByte [58] y = -1
    have : ((58 : UInt8) == y) = false := beq_eq_false_iff_ne.2 (fun h => by rw [← h] at hy; simp at hy)
    simp [Lib.indexByte, this]
  have hw2 : IntKind.i64.wrap 2 = 2 := by decide
  go_enter Tryd.func49, Tryd.ntmps49
  go_wp2_with (first | (go_at_call 66; refine (Any.utf8_ValidRune Tryd.lays119 r _).mono ?_; rintro e w' ⟨rfl, rfl⟩; rw [hv]) | fail)
  go_step3
  go_wp2
  refine wp_loop_rounds 1 ?_
  rw [rounds_succ]
  go_wp2
  go_step3
  go_wp2_with fail
  go_region
  go_wp2_with fail
  go_region_held3 (fun wz => wz.heap = w'.heap) (exact rfl)
    (first
      | (go_at_call 65; (with_reducible refine (idxByte _ _ _).mono ?_); rintro e w5 ⟨rfl, rfl⟩))
  go_wp2
  rw [Exit.noGoto_ret]
  simp only [Exit.inBlock, Exit.then]
  rw [Exit.noGoto_ret]
  go_ret
  exact ⟨rfl, (Below.refl _ _).drew.drew⟩
set_option maxRecDepth 100000 in
set_option maxHeartbeats 1000000 in
theorem irune3 (r : Int) (w : World) (hv0 : Utf8.valid r = true) (he : (r == 65533) = false) (h0 : 2048 ≤ r) (h1 : r < 65536) :
    Calls Tryd.prog 49 #[.string ⟨#[46, 35, 58]⟩, .int .i32 r] w fun e w' => e = .returned (.int .i64 (-1)) ∧ Below w.heap.size w w' := by
  have hv : Lib.validRune r = true := by simp [Utf8.valid] at hv0; simp [Lib.validRune]; omega
  obtain ⟨x, y, z, hx, hy⟩ := enc3 r hv0 h0 h1
  have h128 : 128 ≤ r := by omega
  have hr0 : 0 ≤ r := by omega
  clear hv0
  have hne : ((((⟨#[46, 35, 58]⟩ : ByteArray)[2]'(by decide)).toNat : Int) != (((⟨#[x, y, z]⟩ : ByteArray)[2]'(by simp [ByteArray.size])).toNat : Int)) = true := by
    show ((58 : Int) != (z.toNat : Int)) = true
    rw [bne_iff_ne]; omega
  have hib : ∀ c, Lib.indexByte [] c = -1 := fun _ => rfl
  have hw2 : IntKind.i64.wrap 3 = 3 := by decide
  go_enter Tryd.func49, Tryd.ntmps49
  go_wp2_with (first | (go_at_call 66; refine (Any.utf8_ValidRune Tryd.lays119 r _).mono ?_; rintro e w' ⟨rfl, rfl⟩; rw [hv]) | fail)
  go_step3
  go_wp2
  refine wp_loop_rounds 1 ?_
  rw [rounds_succ]
  go_wp2
  go_step3
  go_wp2_with fail
  go_region
  go_wp2_with fail
  go_region_held3 (fun wz => wz.heap = w'.heap) (exact rfl)
    (first
      | (go_at_call 65; (with_reducible refine (idxByte _ _ _).mono ?_); rintro e w5 ⟨rfl, rfl⟩))
  go_wp2
  rw [Exit.noGoto_ret]
  simp only [Exit.inBlock, Exit.then]
  rw [Exit.noGoto_ret]
  go_ret
  exact ⟨rfl, (Below.refl _ _).drew.drew⟩
set_option maxRecDepth 100000 in
set_option maxHeartbeats 1000000 in
theorem irune4 (r : Int) (w : World) (hv0 : Utf8.valid r = true) (he : (r == 65533) = false) (h0 : 65536 ≤ r) (h1 : r ≤ 1114111) :
    Calls Tryd.prog 49 #[.string ⟨#[46, 35, 58]⟩, .int .i32 r] w fun e w' => e = .returned (.int .i64 (-1)) ∧ Below w.heap.size w w' := by
  have hv : Lib.validRune r = true := by simp [Utf8.valid] at hv0; simp [Lib.validRune]; omega
  obtain ⟨x, y, z, u, hx⟩ := enc4 r hv0 h0
  have h128 : 128 ≤ r := by omega
  have hr0 : 0 ≤ r := by omega
  clear hv0
  go_enter Tryd.func49, Tryd.ntmps49
  go_wp2_with (first | (go_at_call 66; refine (Any.utf8_ValidRune Tryd.lays119 r _).mono ?_; rintro e w' ⟨rfl, rfl⟩; rw [hv]) | fail)
  go_step3
  go_wp2
  refine wp_loop_rounds 1 ?_
  rw [rounds_succ]
  go_wp2
  rw [Exit.noGoto_ret]
  go_ret
  exact ⟨rfl, Below.refl _ _⟩

set_option maxRecDepth 100000 in
set_option maxHeartbeats 1000000 in
theorem irune_bad (r : Int) (w : World) (hv : Lib.validRune r = false) (h0 : 128 ≤ r) (he : (r == 65533) = false) :
    Calls Tryd.prog 49 #[.string ⟨#[46, 35, 58]⟩, .int .i32 r] w fun e w' => e = .returned (.int .i64 (-1)) ∧ Below w.heap.size w w' := by
  have hr0 : 0 ≤ r := by omega
  go_enter Tryd.func49, Tryd.ntmps49
  go_wp2_with (first | (go_at_call 66; refine (Any.utf8_ValidRune Tryd.lays119 r _).mono ?_; rintro e w' ⟨rfl, rfl⟩; rw [hv]) | fail)
  go_ret
  exact ⟨rfl, Below.refl _ _⟩

set_option maxRecDepth 100000 in
set_option maxHeartbeats 1000000 in
theorem irune_err (w : World) :
    Calls Tryd.prog 49 #[.string ⟨#[46, 35, 58]⟩, .int .i32 65533] w fun e w' => e = .returned (.int .i64 (-1)) ∧ Below w.heap.size w w' := by
  have n0 := fun ty => run_next_ascii (P := Tryd.prog) w ⟨#[46, 35, 58]⟩ 0 ty (by decide) (by decide)
  have n1 := fun ty => run_next_ascii (P := Tryd.prog) w ⟨#[46, 35, 58]⟩ 1 ty (by decide) (by decide)
  have n2 := fun ty => run_next_ascii (P := Tryd.prog) w ⟨#[46, 35, 58]⟩ 2 ty (by decide) (by decide)
  have n3 := fun ty => run_next_end (P := Tryd.prog) w ⟨#[46, 35, 58]⟩ 3 ty (by decide)
  go_enter Tryd.func49, Tryd.ntmps49
  go_wp2_with fail
  refine wp_loop_rounds 4 ?_
  rw [rounds_succ]
  go_wp2
  rw [rounds_succ]
  go_wp2
  rw [rounds_succ]
  go_wp2
  rw [rounds_succ]
  go_wp2
  go_ret
  exact ⟨rfl, below_it _ _ _⟩

theorem irune_any (r : Int) (w : World) (h0 : 0 ≤ r) :
    Calls Tryd.prog 49 #[.string ⟨#[46, 35, 58]⟩, .int .i32 r] w fun e w' => (∃ k, e = .returned (.int .i64 k)) ∧ Below w.heap.size w w' := by
  have key : 128 ≤ r → Calls Tryd.prog 49 #[.string ⟨#[46, 35, 58]⟩, .int .i32 r] w fun e w' => e = .returned (.int .i64 (-1)) ∧ Below w.heap.size w w' := by
    intro h
    by_cases he : r = 65533
    · subst he; exact irune_err w
    · have he' : (r == 65533) = false := beq_eq_false_iff_ne.2 he
      cases hv : Lib.validRune r
      · exact irune_bad r w hv h he'
      · have hv0 : Utf8.valid r = true := by simp [Lib.validRune] at hv; simp [Utf8.valid]; omega
        have hle : r ≤ 1114111 := by simp [Utf8.valid] at hv0; omega
        by_cases h2 : r < 2048
        · exact irune2 r w h h2
        · by_cases h3 : r < 65536
          · exact irune3 r w hv0 he' (by omega) h3
          · exact irune4 r w hv0 he' (by omega) hle
  by_cases h : r < 128
  · exact (Any.strings_IndexRune_ascii (ρ := Tryd.lays153_ren) { Tryd.lays153 with } _ _ _ h0 h).mono fun e w' ⟨h1, h2⟩ => ⟨⟨_, h1⟩, h2 ▸ Below.refl _ _⟩
  · exact (key (by omega)).mono fun e w' ⟨h1, h2⟩ => ⟨⟨_, h1⟩, h2⟩
end Go.Proofs.YthcafhdokbejkaaDoor
