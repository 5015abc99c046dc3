/- Many lines of one kind: what Parse and Print answer at them. -/
import Derived.Test.YtpgcnejofnhhfaaDoorPrint
namespace Go.Proofs.YtpgcnejofnhhfaaDoor
open Go.ChangeShapes Go.WideShapes Go.ChangeAt Go.RowKit Go.Shelf Go.Maps
def stp : List UInt8 := [115, 116, 111, 112, 32, 49, 10]
def repT : Nat → List UInt8
  | 0 => []
  | k + 1 => stp ++ repT k
theorem repT_snoc : ∀ k, repT k ++ stp = repT (k + 1)
  | 0 => by simp [repT]
  | k + 1 => by rw [repT, List.append_assoc, repT_snoc k]; rfl
theorem repT_len : ∀ k, (repT k).length = 7 * k
  | 0 => rfl
  | k + 1 => by rw [repT, List.length_append, repT_len k]; simp [stp]; omega
theorem cut_stp (r : List UInt8) : Lib.cut (stp ++ r) [10] = ([115, 116, 111, 112, 32, 49], r, true) := by
  simp [Lib.cut, Lib.index, stp]
theorem line_stp : lineL ⟨#[115, 116, 111, 112, 32, 49]⟩ = ((1, 1, 0), 0) := by decide +kernel
theorem go_rep : ∀ (k f : Nat) (acc : List Pk), (repT k).length < f → acc.length + k ≤ 4096 → parseGo f (repT k) acc = (acc ++ List.replicate k (1, 1, 0), 0, 0)
  | 0, f + 1, acc, _, _ => by simp [parseGo, repT]
  | k + 1, f + 1, acc, hf, hk => by
    rw [parseGo, if_neg (by simp [repT, stp]), repT, cut_stp]
    simp only
    rw [line_stp]
    have he : errL true 0 acc.length = 0 := by unfold errL; rw [if_neg (by simp), if_neg (by omega)]
    simp only
    rw [he, if_pos rfl, go_rep k f (acc ++ [(1, 1, 0)]) (by rw [repT_len] at *; omega) (by simp; omega)]
    simp [List.replicate_succ]
theorem go_many : ∀ (k f : Nat) (acc : List Pk), (repT k).length < f → acc.length ≤ 4096 → 4096 < acc.length + k → parseGo f (repT k) acc = ([], 4097, 15)
  | 0, _, acc, _, h1, h2 => by omega
  | k + 1, f + 1, acc, hf, h1, h2 => by
    rw [parseGo, if_neg (by simp [repT, stp]), repT, cut_stp]
    simp only
    rw [line_stp]
    simp only
    by_cases ha : acc.length = 4096
    · have he : errL true 0 acc.length = 15 := by unfold errL; rw [ha]; rfl
      rw [he, if_neg (by decide), ha]
      rfl
    · have he : errL true 0 acc.length = 0 := by unfold errL; rw [if_neg (by simp), if_neg (by omega)]
      rw [he, if_pos rfl, go_many k f (acc ++ [(1, 1, 0)]) (by rw [repT_len] at *; omega) (by simp; omega) (by simp; omega)]
theorem bad_rep (p : Pk) (h : checkL p = 0) : ∀ n, badL (List.replicate n p) = 0
  | 0 => rfl
  | n + 1 => by rw [List.replicate_succ]; simp only [badL]; rw [if_pos h]; exact bad_rep p h n
theorem text_rep (p : Pk) : ∀ n, (textL (List.replicate n p)).length = (lineT p).length * n
  | 0 => by simp [textL]
  | n + 1 => by
    have := text_rep p n
    rw [List.replicate_succ, textL, List.flatMap_cons, List.length_append]
    rw [show (List.flatMap lineT (List.replicate n p)).length = _ from this]
    rw [Nat.mul_succ]; omega
theorem print_ok (n : Nat) (h : n ≤ 4096) : (printL (List.replicate n (1, 1, 0))).2 = 0 := by
  unfold printL
  have hl : (lineT (1, 1, 0)).length = 7 := by decide +kernel
  rw [if_neg (by simp; omega), if_pos (bad_rep _ (by decide) n), if_neg (by rw [text_rep, hl]; omega)]
theorem print_great (n : Nat) (h : n ≤ 4096) (h2 : 4090 ≤ n) : (printL (List.replicate n (0, 8, -2147483648))).2 = 7 := by
  unfold printL
  have hl : (lineT (0, 8, -2147483648)).length = 19 := by decide +kernel
  rw [if_neg (by simp; omega), if_pos (bad_rep _ (by decide) n), if_pos (by rw [text_rep, hl]; omega)]
end Go.Proofs.YtpgcnejofnhhfaaDoor
