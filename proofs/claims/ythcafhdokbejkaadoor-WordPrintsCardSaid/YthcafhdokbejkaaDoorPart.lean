/- part of package word, at each of its four calls. -/
import Derived.Test.YthcafhdokbejkaaDoorClos
namespace Go.Proofs.YthcafhdokbejkaaDoor
open Go.RowKit Go.Shelf

def Asc (l : List UInt8) : Prop := ∀ (j : Nat) b, l[j]? = some b → b.toNat < 128
/-- Where the first mark stands, or the end. -/
def cutAt (l : List UInt8) : Nat := if Lib.indexAny l [46, 35, 58] < 0 then l.length else (Lib.indexAny l [46, 35, 58]).toNat

theorem iany_both (s : ByteArray) (w : World) (hs : s.size < 4294967281) :
    Calls Tryd.prog 39 #[.string s, .string ⟨#[46, 35, 58]⟩] w fun e w' => (∃ r : Int, e = .returned (.int .i64 r) ∧ (-1 ≤ r ∧ r < s.size) ∧ (Asc s.data.toList → r = Lib.indexAny s.data.toList [46, 35, 58])) ∧ Below w.heap.size w w' := by
  by_cases h : Asc s.data.toList
  · refine (iany_ascii s w hs h).mono ?_
    rintro e w' ⟨rfl, hb⟩
    refine ⟨⟨_, rfl, ⟨Lib.indexAny_ge _ _, ?_⟩, fun _ => rfl⟩, hb⟩
    rw [Lib.size_eq s]
    exact indexAny_lt _ _
  · refine (iany_any s w hs).mono ?_
    rintro e w' ⟨⟨r, rfl, h0, h1⟩, hb⟩
    exact ⟨⟨r, rfl, ⟨h0, h1⟩, fun h' => absurd h' h⟩, hb⟩

def PartPost (l : List UInt8) (parse : List UInt8 → Option Int) (lo hi : Int) (post : Int → World → Prop) (e : Ending) (W' : World) : Prop :=
  ∃ k, k ≤ l.length ∧ (Asc l → k = cutAt l) ∧ ∃ x good, e = .returned (.tuple #[.string ⟨(l.drop k).toArray⟩, .bool good]) ∧ (lo ≤ x ∧ x ≤ hi) ∧ parse (l.take k) = (if good = true then some x else none) ∧ post x W'

theorem ext_take (l : List UInt8) (k : Nat) : (⟨l.toArray⟩ : ByteArray).extract 0 k = ⟨(l.take k).toArray⟩ := by
  apply ByteArray.ext
  simp [ByteArray.data_extract]
theorem ext_drop (l : List UInt8) (k : Nat) : (⟨l.toArray⟩ : ByteArray).extract k l.length = ⟨(l.drop k).toArray⟩ := by
  apply ByteArray.ext
  simp [ByteArray.data_extract]
  rw [List.take_of_length_le (by simp)]
theorem drop_all (l : List UInt8) : (⟨(l.drop l.length).toArray⟩ : ByteArray) = ByteArray.empty := by
  rw [List.drop_length]; rfl
theorem has_pre {s m l : List UInt8} (h : s = m ++ l) : Lib.hasPrefix s m = true ∧ Lib.trimPrefix s m = l := by
  subst h
  have : Lib.hasPrefix (m ++ l) m = true := by unfold Lib.hasPrefix; rw [List.isPrefixOf_iff_prefix]; exact List.prefix_append _ _
  exact ⟨this, by unfold Lib.trimPrefix; rw [if_pos this]; simp⟩

set_option maxRecDepth 100000 in
set_option maxHeartbeats 1600000 in
theorem part30 (l : List UInt8) (s mark : ByteArray) {w W : World} {B : Nat} {v n r a b : Int} (hl : s.data.toList = mark.data.toList ++ l) (hs : s.size ≤ 1000) (hB : 3 ≤ B) (R : RS w B v n r a b W) :
    Calls Tryd.prog 29 #[.string s, .string mark, .func (.func 30) #[] #[.pointer (some ⟨B + 1, 0, none⟩)]] W
      (PartPost l (fun l => okOf (Lib.parseIntB 64 l)) (-9223372036854775808) 9223372036854775807 fun x => RS w B x n r a b) := by
  have RR := Lib.hid R
  obtain ⟨hpre, htrim⟩ := has_pre hl
  have hsl : (⟨l.toArray⟩ : ByteArray).size = l.length := by simp [ByteArray.size]
  have hll : l.length ≤ 1000 := by
    have := congrArg List.length hl
    have h2 := Lib.size_eq s
    simp at this
    simp at h2
    omega
  clear R hl
  go_enter Tryd.func29, Tryd.ntmps29
  go_wp2_with fail
  refine (Any.strings_CutPrefix Tryd.lays103 s mark _).mono ?_
  rintro e w' ⟨rfl, rfl⟩
  rw [htrim, hpre]
  go_wp2_with fail
  refine (iany_both _ _ (by omega)).mono ?_
  rintro e W1 ⟨⟨q, rfl, ⟨hq0, hq1⟩, hqa⟩, hb⟩
  have R1 := Lib.hid (RR.out.below hb)
  have HQ := Lib.hid (show Asc l → q = Lib.indexAny l [46, 35, 58] from fun h => by simpa using hqa (by simpa using h))
  rw [hsl] at hq1
  clear hb RR hqa hpre htrim
  by_cases hneg : q < 0
  · skip
    have hk0 : (0 : Int) ≤ (l.length : Int) := by omega
    have hk2 : (l.length : Int) ≤ (l.length : Int) := by omega
    have hk3 : l.length ≤ l.length := by omega
    have CU := Lib.hid (show Asc l → l.length = cutAt l from fun h => by have := HQ.out h; unfold cutAt; rw [if_pos (by omega)])
    clear HQ
    go_wp2_with fail
    have hsz : B < W1.drew.heap.size := by have := R1.out.l; simp; omega
    have R2 := Lib.hid (R1.out.below (Below.refl _ _).drew)
    go_region_held3 (fun wz => B < wz.heap.size) (first | exact hsz | exact hsz2)
      (first
        | (go_at_call 30; rw [ext_take]; (with_reducible refine (clo30 _ (by simp [ByteArray.size]; omega) hB R2.out).mono ?_); rintro e W3 ⟨x, good, rfl, hx, hok, R3⟩; have hsz2 : B < W3.heap.size := (by have := R3.l; omega); have RF := Lib.hid R3; have HO := Lib.hid hok; clear R3 hok))
    clear hsz hsz2
    go_wp2
    go_ret2
    refine ⟨l.length, hk3, CU.out, x, good, ?_, hx, HO.out, RF.out⟩
    rw [drop_all]; rfl
  · obtain ⟨k, rfl⟩ : ∃ k : Nat, q = (k : Int) := ⟨q.toNat, by omega⟩
    have hk0 : (0 : Int) ≤ (k : Int) := by omega
    have hk2 : (k : Int) ≤ (l.length : Int) := by omega
    have hk3 : k ≤ l.length := by omega
    have CU := Lib.hid (show Asc l → k = cutAt l from fun h => by have := HQ.out h; unfold cutAt; rw [if_neg (by omega), ← this]; simp)
    clear HQ
    go_wp2_with fail
    have hsz : B < W1.drew.heap.size := by have := R1.out.l; simp; omega
    have R2 := Lib.hid (R1.out.below (Below.refl _ _).drew)
    go_region_held3 (fun wz => B < wz.heap.size) (first | exact hsz | exact hsz2)
      (first
        | (go_at_call 30; rw [ext_take]; (with_reducible refine (clo30 _ (by simp [ByteArray.size]; omega) hB R2.out).mono ?_); rintro e W3 ⟨x, good, rfl, hx, hok, R3⟩; have hsz2 : B < W3.heap.size := (by have := R3.l; omega); have RF := Lib.hid R3; have HO := Lib.hid hok; clear R3 hok))
    clear hsz hsz2
    go_wp2
    go_ret2
    refine ⟨k, hk3, CU.out, x, good, ?_, hx, HO.out, RF.out⟩
    rw [← ext_drop]; rfl

set_option maxRecDepth 100000 in
set_option maxHeartbeats 1600000 in
theorem part32 (l : List UInt8) (s mark : ByteArray) {w W : World} {B : Nat} {v n r a b : Int} (hl : s.data.toList = mark.data.toList ++ l) (hs : s.size ≤ 1000) (hB : 3 ≤ B) (R : RS w B v n r a b W) :
    Calls Tryd.prog 29 #[.string s, .string mark, .func (.func 32) #[] #[.pointer (some ⟨B + 1, 0, none⟩)]] W
      (PartPost l (fun l => natOf (okOf (Lib.parseUintB 32 l))) (0) 4294967295 fun x => RS w B v x r a b) := by
  have RR := Lib.hid R
  obtain ⟨hpre, htrim⟩ := has_pre hl
  have hsl : (⟨l.toArray⟩ : ByteArray).size = l.length := by simp [ByteArray.size]
  have hll : l.length ≤ 1000 := by
    have := congrArg List.length hl
    have h2 := Lib.size_eq s
    simp at this
    simp at h2
    omega
  clear R hl
  go_enter Tryd.func29, Tryd.ntmps29
  go_wp2_with fail
  refine (Any.strings_CutPrefix Tryd.lays103 s mark _).mono ?_
  rintro e w' ⟨rfl, rfl⟩
  rw [htrim, hpre]
  go_wp2_with fail
  refine (iany_both _ _ (by omega)).mono ?_
  rintro e W1 ⟨⟨q, rfl, ⟨hq0, hq1⟩, hqa⟩, hb⟩
  have R1 := Lib.hid (RR.out.below hb)
  have HQ := Lib.hid (show Asc l → q = Lib.indexAny l [46, 35, 58] from fun h => by simpa using hqa (by simpa using h))
  rw [hsl] at hq1
  clear hb RR hqa hpre htrim
  by_cases hneg : q < 0
  · skip
    have hk0 : (0 : Int) ≤ (l.length : Int) := by omega
    have hk2 : (l.length : Int) ≤ (l.length : Int) := by omega
    have hk3 : l.length ≤ l.length := by omega
    have CU := Lib.hid (show Asc l → l.length = cutAt l from fun h => by have := HQ.out h; unfold cutAt; rw [if_pos (by omega)])
    clear HQ
    go_wp2_with fail
    have hsz : B < W1.drew.heap.size := by have := R1.out.l; simp; omega
    have R2 := Lib.hid (R1.out.below (Below.refl _ _).drew)
    go_region_held3 (fun wz => B < wz.heap.size) (first | exact hsz | exact hsz2)
      (first
        | (go_at_call 32; rw [ext_take]; (with_reducible refine (clo32 _ (by simp [ByteArray.size]; omega) hB R2.out).mono ?_); rintro e W3 ⟨x, good, rfl, hx, hok, R3⟩; have hsz2 : B < W3.heap.size := (by have := R3.l; omega); have RF := Lib.hid R3; have HO := Lib.hid hok; clear R3 hok))
    clear hsz hsz2
    go_wp2
    go_ret2
    refine ⟨l.length, hk3, CU.out, x, good, ?_, hx, HO.out, RF.out⟩
    rw [drop_all]; rfl
  · obtain ⟨k, rfl⟩ : ∃ k : Nat, q = (k : Int) := ⟨q.toNat, by omega⟩
    have hk0 : (0 : Int) ≤ (k : Int) := by omega
    have hk2 : (k : Int) ≤ (l.length : Int) := by omega
    have hk3 : k ≤ l.length := by omega
    have CU := Lib.hid (show Asc l → k = cutAt l from fun h => by have := HQ.out h; unfold cutAt; rw [if_neg (by omega), ← this]; simp)
    clear HQ
    go_wp2_with fail
    have hsz : B < W1.drew.heap.size := by have := R1.out.l; simp; omega
    have R2 := Lib.hid (R1.out.below (Below.refl _ _).drew)
    go_region_held3 (fun wz => B < wz.heap.size) (first | exact hsz | exact hsz2)
      (first
        | (go_at_call 32; rw [ext_take]; (with_reducible refine (clo32 _ (by simp [ByteArray.size]; omega) hB R2.out).mono ?_); rintro e W3 ⟨x, good, rfl, hx, hok, R3⟩; have hsz2 : B < W3.heap.size := (by have := R3.l; omega); have RF := Lib.hid R3; have HO := Lib.hid hok; clear R3 hok))
    clear hsz hsz2
    go_wp2
    go_ret2
    refine ⟨k, hk3, CU.out, x, good, ?_, hx, HO.out, RF.out⟩
    rw [← ext_drop]; rfl

set_option maxRecDepth 100000 in
set_option maxHeartbeats 1600000 in
theorem part43a (l : List UInt8) (s mark : ByteArray) {w W : World} {B N : Nat} {v n r a b : Int} (hl : s.data.toList = mark.data.toList ++ l) (hs : s.size ≤ 1000) (hB : 3 ≤ B) (R : RS w B v n r a b W) (hN : W.heap[N]? = some (.cells #[.pointer (some ⟨B + 2, 0, none⟩)] 67 (0, 0))) :
    Calls Tryd.prog 29 #[.string s, .string mark, .func (.func 43) #[] #[.pointer (some ⟨N, 0, none⟩)]] W
      (PartPost l (fun l => okOf (Lib.parseIntB 32 l)) (-2147483648) 2147483647 fun x => RS w B v n r x b) := by
  have RR := Lib.hid R
  obtain ⟨hpre, htrim⟩ := has_pre hl
  have hsl : (⟨l.toArray⟩ : ByteArray).size = l.length := by simp [ByteArray.size]
  have hll : l.length ≤ 1000 := by
    have := congrArg List.length hl
    have h2 := Lib.size_eq s
    simp at this
    simp at h2
    omega
  clear R hl
  go_enter Tryd.func29, Tryd.ntmps29
  go_wp2_with fail
  refine (Any.strings_CutPrefix Tryd.lays103 s mark _).mono ?_
  rintro e w' ⟨rfl, rfl⟩
  rw [htrim, hpre]
  go_wp2_with fail
  refine (iany_both _ _ (by omega)).mono ?_
  rintro e W1 ⟨⟨q, rfl, ⟨hq0, hq1⟩, hqa⟩, hb⟩
  have R1 := Lib.hid (RR.out.below hb)
  have N1 := Lib.hid (((hb.block N (lt_of_block hN)).trans hN))
  clear hN
  have HQ := Lib.hid (show Asc l → q = Lib.indexAny l [46, 35, 58] from fun h => by simpa using hqa (by simpa using h))
  rw [hsl] at hq1
  clear hb RR hqa hpre htrim
  by_cases hneg : q < 0
  · skip
    have hk0 : (0 : Int) ≤ (l.length : Int) := by omega
    have hk2 : (l.length : Int) ≤ (l.length : Int) := by omega
    have hk3 : l.length ≤ l.length := by omega
    have CU := Lib.hid (show Asc l → l.length = cutAt l from fun h => by have := HQ.out h; unfold cutAt; rw [if_pos (by omega)])
    clear HQ
    go_wp2_with fail
    have hsz : B < W1.drew.heap.size := by have := R1.out.l; simp; omega
    have R2 := Lib.hid (R1.out.below (Below.refl _ _).drew)
    go_region_held3 (fun wz => B < wz.heap.size) (first | exact hsz | exact hsz2)
      (first
        | (go_at_call 43; rw [ext_take]; (with_reducible refine (clo43a _ (by simp [ByteArray.size]; omega) hB R2.out N1.out).mono ?_); rintro e W3 ⟨x, good, rfl, hx, hok, R3⟩; have hsz2 : B < W3.heap.size := (by have := R3.l; omega); have RF := Lib.hid R3; have HO := Lib.hid hok; clear R3 hok))
    clear hsz hsz2
    go_wp2
    go_ret2
    refine ⟨l.length, hk3, CU.out, x, good, ?_, hx, HO.out, RF.out⟩
    rw [drop_all]; rfl
  · obtain ⟨k, rfl⟩ : ∃ k : Nat, q = (k : Int) := ⟨q.toNat, by omega⟩
    have hk0 : (0 : Int) ≤ (k : Int) := by omega
    have hk2 : (k : Int) ≤ (l.length : Int) := by omega
    have hk3 : k ≤ l.length := by omega
    have CU := Lib.hid (show Asc l → k = cutAt l from fun h => by have := HQ.out h; unfold cutAt; rw [if_neg (by omega), ← this]; simp)
    clear HQ
    go_wp2_with fail
    have hsz : B < W1.drew.heap.size := by have := R1.out.l; simp; omega
    have R2 := Lib.hid (R1.out.below (Below.refl _ _).drew)
    go_region_held3 (fun wz => B < wz.heap.size) (first | exact hsz | exact hsz2)
      (first
        | (go_at_call 43; rw [ext_take]; (with_reducible refine (clo43a _ (by simp [ByteArray.size]; omega) hB R2.out N1.out).mono ?_); rintro e W3 ⟨x, good, rfl, hx, hok, R3⟩; have hsz2 : B < W3.heap.size := (by have := R3.l; omega); have RF := Lib.hid R3; have HO := Lib.hid hok; clear R3 hok))
    clear hsz hsz2
    go_wp2
    go_ret2
    refine ⟨k, hk3, CU.out, x, good, ?_, hx, HO.out, RF.out⟩
    rw [← ext_drop]; rfl

set_option maxRecDepth 100000 in
set_option maxHeartbeats 1600000 in
theorem part43b (l : List UInt8) (s mark : ByteArray) {w W : World} {B N : Nat} {v n r a b : Int} (hl : s.data.toList = mark.data.toList ++ l) (hs : s.size ≤ 1000) (hB : 3 ≤ B) (R : RS w B v n r a b W) (hN : W.heap[N]? = some (.cells #[.pointer (some ⟨B + 3, 0, none⟩)] 67 (0, 0))) :
    Calls Tryd.prog 29 #[.string s, .string mark, .func (.func 43) #[] #[.pointer (some ⟨N, 0, none⟩)]] W
      (PartPost l (fun l => okOf (Lib.parseIntB 32 l)) (-2147483648) 2147483647 fun x => RS w B v n r a x) := by
  have RR := Lib.hid R
  obtain ⟨hpre, htrim⟩ := has_pre hl
  have hsl : (⟨l.toArray⟩ : ByteArray).size = l.length := by simp [ByteArray.size]
  have hll : l.length ≤ 1000 := by
    have := congrArg List.length hl
    have h2 := Lib.size_eq s
    simp at this
    simp at h2
    omega
  clear R hl
  go_enter Tryd.func29, Tryd.ntmps29
  go_wp2_with fail
  refine (Any.strings_CutPrefix Tryd.lays103 s mark _).mono ?_
  rintro e w' ⟨rfl, rfl⟩
  rw [htrim, hpre]
  go_wp2_with fail
  refine (iany_both _ _ (by omega)).mono ?_
  rintro e W1 ⟨⟨q, rfl, ⟨hq0, hq1⟩, hqa⟩, hb⟩
  have R1 := Lib.hid (RR.out.below hb)
  have N1 := Lib.hid (((hb.block N (lt_of_block hN)).trans hN))
  clear hN
  have HQ := Lib.hid (show Asc l → q = Lib.indexAny l [46, 35, 58] from fun h => by simpa using hqa (by simpa using h))
  rw [hsl] at hq1
  clear hb RR hqa hpre htrim
  by_cases hneg : q < 0
  · skip
    have hk0 : (0 : Int) ≤ (l.length : Int) := by omega
    have hk2 : (l.length : Int) ≤ (l.length : Int) := by omega
    have hk3 : l.length ≤ l.length := by omega
    have CU := Lib.hid (show Asc l → l.length = cutAt l from fun h => by have := HQ.out h; unfold cutAt; rw [if_pos (by omega)])
    clear HQ
    go_wp2_with fail
    have hsz : B < W1.drew.heap.size := by have := R1.out.l; simp; omega
    have R2 := Lib.hid (R1.out.below (Below.refl _ _).drew)
    go_region_held3 (fun wz => B < wz.heap.size) (first | exact hsz | exact hsz2)
      (first
        | (go_at_call 43; rw [ext_take]; (with_reducible refine (clo43b _ (by simp [ByteArray.size]; omega) hB R2.out N1.out).mono ?_); rintro e W3 ⟨x, good, rfl, hx, hok, R3⟩; have hsz2 : B < W3.heap.size := (by have := R3.l; omega); have RF := Lib.hid R3; have HO := Lib.hid hok; clear R3 hok))
    clear hsz hsz2
    go_wp2
    go_ret2
    refine ⟨l.length, hk3, CU.out, x, good, ?_, hx, HO.out, RF.out⟩
    rw [drop_all]; rfl
  · obtain ⟨k, rfl⟩ : ∃ k : Nat, q = (k : Int) := ⟨q.toNat, by omega⟩
    have hk0 : (0 : Int) ≤ (k : Int) := by omega
    have hk2 : (k : Int) ≤ (l.length : Int) := by omega
    have hk3 : k ≤ l.length := by omega
    have CU := Lib.hid (show Asc l → k = cutAt l from fun h => by have := HQ.out h; unfold cutAt; rw [if_neg (by omega), ← this]; simp)
    clear HQ
    go_wp2_with fail
    have hsz : B < W1.drew.heap.size := by have := R1.out.l; simp; omega
    have R2 := Lib.hid (R1.out.below (Below.refl _ _).drew)
    go_region_held3 (fun wz => B < wz.heap.size) (first | exact hsz | exact hsz2)
      (first
        | (go_at_call 43; rw [ext_take]; (with_reducible refine (clo43b _ (by simp [ByteArray.size]; omega) hB R2.out N1.out).mono ?_); rintro e W3 ⟨x, good, rfl, hx, hok, R3⟩; have hsz2 : B < W3.heap.size := (by have := R3.l; omega); have RF := Lib.hid R3; have HO := Lib.hid hok; clear R3 hok))
    clear hsz hsz2
    go_wp2
    go_ret2
    refine ⟨k, hk3, CU.out, x, good, ?_, hx, HO.out, RF.out⟩
    rw [← ext_drop]; rfl

/-- The mark is not there. -/
theorem part_no (f : Value) (s mark : ByteArray) (W : World) (hl : Lib.hasPrefix s.data.toList mark.data.toList = false) :
    Calls Tryd.prog 29 #[.string s, .string mark, f] W fun e W' => e = .returned (.tuple #[.string ⟨#[]⟩, .bool false]) ∧ W = W' := by
  go_enter Tryd.func29, Tryd.ntmps29
  go_wp2_with fail
  refine (Any.strings_CutPrefix Tryd.lays103 s mark _).mono ?_
  rintro e w' ⟨rfl, rfl⟩
  rw [hl]
  go_wp2
  go_ret2
  exact ⟨rfl, rfl⟩
end Go.Proofs.YthcafhdokbejkaaDoor
